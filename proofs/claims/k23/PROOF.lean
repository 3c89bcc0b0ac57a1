import PyProof.Rows.All
import Wide.All
import OpenK.AllK
import Wide.FinOn
import PyProof.EqAt
import PyProof.EqKinds
import PyProof.TupleCall
import HandS.ForMost
import HandS.Codes
import HandS.Wide
import HandS.Style
import HandS.Flow
import HandS.TupAny
import HandS.IsInst
import HandS.ExcInit
import HandS.SortKw
import HandS.DictComp
import HandS.Exc
import HandS.WordsExc
import HandS.MakeKw
import HandS.ExcIs
import HandS.ExcField
import HandS.ExcValue
import PyProof.ReprRoads
import PySem.Challenge.RW_weighdoors_k23_goals_or_not
import HandS.More
import HandS.Conv
import HandS.ListItems
import HandS.Iter
import KE.KDictList
import KE.KTupSum
import KE.SortKeyHeap
import HandS.Lambda
import PyProof.TupleOfSeq
import HandS.Keys
import HandS.TryOnly
import HandS.Walk
import PyProof.ReprLen
import HandS.SetFor
import PyProof.SeqRoads2
import KE.GoesZip
import KE.KDictZip
import HandS.Zip
import KE.SortData
import PyProof.FactsAll.dict_1
import PyProof.FactsAll.subtypes_3
import PyProof.FactsAll.subtypes_4
import HandS.Deep
import HandS.Sort
import HandS.AnyAll
import HandS.Text
import PyProof.NeData
import HandS.ExcOwn
import HandS.SuiteRaise
import HandS.RaiseFrom
import HandS.ExcInitHot
import KE.KAsSuite
import HandS.Defaults
import KE.KNestM
import HandS.EndTab
set_option Elab.async false
set_option linter.all false
set_option maxRecDepth 100000
set_option maxHeartbeats 4000000
/-! General rules by values, of which the ones of the hand layer are the cases. -/
namespace Wd
open PySem PySem.Spec PyProof.Rows L2

/-! ### operators whose meaning hangs on the values -/
def rAddG (K : PySem.W.Frag) : R2 := fun x y H Q => match x, y with
  | .int i, .int j => Q (.int (i + j)) H
  | .str a, .str b => a.length + b.length ≤ sizeLine ∧ Q (.str (a ++ b)) H
  | .ref a, .ref b => rCat (.ref a) (.ref b) H Q ∨ rCatA K (.ref a) (.ref b) H Q
  | _, _ => False
theorem op_addG {X : Cx} {K : PySem.W.Frag} (hK : X.K = K := by rfl) : OpR X (binaryOp .Add) (rAddG K) := by
  subst hK
  intro pins s σ H x y v u Q I rx ry h
  cases x <;> cases y <;> first | exact h.elim | skip
  case int.int i j => exact op_add pins s σ H _ _ v u Q I rx ry ⟨i, j, rfl, rfl, h⟩
  case str.str a b => exact op_add_str pins s σ H _ _ v u Q I rx ry ⟨a, b, rfl, rfl, h.1, h.2⟩
  case ref.ref a b =>
    rcases h with h | h
    · exact op_cat pins s σ H _ _ v u Q I rx ry h
    · exact op_catA pins s σ H _ _ v u Q I rx ry h
def rMulG (K : PySem.W.Frag) : R2 := fun x y H Q => match x, y with
  | .int i, .int j => CMul i j ∧ Q (.int (i * j)) H
  | .ref a, .int k => rRep (.ref a) (.int k) H Q
  | _, _ => False
theorem op_mulG {X : Cx} {K : PySem.W.Frag} (hK : X.K = K := by rfl) : OpR X (binaryOp .Mult) (rMulG K) := by
  subst hK
  intro pins s σ H x y v u Q I rx ry h
  cases x <;> cases y <;> first | exact h.elim | skip
  case int.int i j => exact op_mul pins s σ H _ _ v u Q I rx ry ⟨i, j, rfl, rfl, h.1, h.2⟩
  case ref.int a k => exact op_rep pins s σ H _ _ v u Q I rx ry h
def rEqX (K : PySem.W.Frag) : R2 := fun x y H Q => rEq x y H Q ∨ rEqD K x y H Q
def rNeX (K : PySem.W.Frag) : R2 := fun x y H Q => rNe x y H Q ∨ rNeD K x y H Q
theorem op_eqX {X : Cx} {K : PySem.W.Frag} (hu : X.A.units + 64 < cLine) (hK : X.K = K := by rfl) : OpR X (compareOp .Eq) (rEqX K) := by
  subst hK
  exact op_eq.or (op_eqD hu)
theorem op_neX {X : Cx} {K : PySem.W.Frag} (hu : X.A.units + 64 < cLine) (hK : X.K = K := by rfl) : OpR X (compareOp .NotEq) (rNeX K) := by
  subst hK
  exact op_ne.or (op_neD hu)
def rLenG (K : PySem.W.Frag) : List V → Hp → VK → Prop := fun xs H Q => match xs with
  | [.str z] => z.length ≤ sizeLine ∧ Q (.int z.length) H
  | [.ref p] => (∃ ys, (SqL K H p ys ∨ SqT K H p ys) ∧ Q (.int ys.length) H) ∨ ∃ kvs, H p = some (.dK kvs) ∧ Q (.int kvs.length) H
  | _ => False
theorem call_lenG {X : Cx} {K : PySem.W.Frag} (hK : X.K = K := by rfl) : CallR X (.builtin "len") (rLenG K) := by
  subst hK
  intro pins s σ H xs us Q I r h
  match xs, h with
  | [.str z], h => exact call_len_str pins s σ H _ us Q I r ⟨z, rfl, h.1, h.2⟩
  | [.ref p], h =>
    rcases h with ⟨ys, h1, h2⟩ | ⟨kvs, h1, h2⟩
    · exact call_len_seq pins s σ H _ us Q I r ⟨p, ys, rfl, h1, h2⟩
    · exact call_lenD pins s σ H _ us Q I r ⟨p, kvs, rfl, h1, h2⟩
  | [], h => exact h.elim
  | [.non], h => exact h.elim
  | [.bl _], h => exact h.elim
  | [.int _], h => exact h.elim
  | [.byt _], h => exact h.elim
  | [.flt _], h => exact h.elim
  | [.ty _], h => exact h.elim
  | a :: _ :: _, h => cases a <;> exact h.elim
def rSlG (K : PySem.W.Frag) : V → Option Int → Option Int → Hp → VK → Prop := fun x lo hi H Q => rSlL K x lo hi H Q ∨ (rSlA K x lo hi H Q ∨ C8.rSlX x lo hi H Q)
theorem sl_any {X : Cx} {K : PySem.W.Frag} (hK : X.K = K := by rfl) : SlR X (rSlG K) := by
  subst hK
  exact sl_list.or (sl_tupA.or C8.sl_txt)
theorem ixG {X : Cx} {K : PySem.W.Frag} (hK : X.K = K := by rfl) : IxR X (rIx K) := by
  subst hK
  exact ix_seq
theorem pe_andK {X : Cx} {K : PySem.W.Frag} {a b : Expr} {rest : List Expr} {pos : Pos} {ta tb : TE} (ha : PE X a ta) (hb : PE X (.BoolOp .And (b :: rest) pos) tb) (hK : X.K = K := by rfl) : PE X (.BoolOp .And (a :: b :: rest) pos) (tAndT K ta tb) := by
  subst hK
  exact pe_andT ha hb
theorem pe_orK {X : Cx} {K : PySem.W.Frag} {a b : Expr} {rest : List Expr} {pos : Pos} {ta tb : TE} (ha : PE X a ta) (hb : PE X (.BoolOp .Or (b :: rest) pos) tb) (hK : X.K = K := by rfl) : PE X (.BoolOp .Or (a :: b :: rest) pos) (tOrT K ta tb) := by
  subst hK
  exact pe_orT ha hb
theorem pe_notK {X : Cx} {K : PySem.W.Frag} {a : Expr} {pos : Pos} {ta : TE} (ha : PE X a ta) (hK : X.K = K := by rfl) : PE X (.UnaryOp .Not a pos) (tNotT K ta) := by
  subst hK
  exact pe_notT ha
def tTruK (K : PySem.W.Frag) (ta : TE) : TT := fun σ H Q => ta σ H fun x H' => ∃ k, TruV K x H' k ∧ Q k H'
theorem pt_truK {X : Cx} {K : PySem.W.Frag} {a : Expr} {ta : TE} (ha : PE X a ta) (he : ∀ whole, isTrue a X.env whole = (do let v ← whole; standAt a.pos; holding [v] (truthy v))) (hK : X.K = K := by rfl) : PT X a (tTruK K ta) := by
  subst hK
  exact pt_truth ha he
theorem pi_listK {X : Cx} {K : PySem.W.Frag} {tg l : Expr} {tl : TE} (h : PE X l tl) (hK : X.K = K := by rfl) : PI X tg l (iList K tl) := by
  subst hK
  exact pi_list h
theorem pi_tupK {X : Cx} {K : PySem.W.Frag} {tg l : Expr} {tl : TE} (h : PE X l tl) (hK : X.K = K := by rfl) : PI X tg l (iTup K tl) := by
  subst hK
  exact pi_tup h
theorem pg_tupK {X : Cx} {K : PySem.W.Frag} {es : List Expr} {k : _} {pos : Pos} {t : TGs} {n : Nat} (hc : X.calm = true) (h : PGs X es t) (hK : X.K = K := by rfl) (hn : (assignEach es X.env).length = n := by rfl) (hst : (assignEach es X.env).findIdx? (·.1) = none := by rfl) : PG X (.Tuple es k pos) (gTup K n t) := by
  subst hK
  exact pg_tup hc h hn hst
theorem bt_len : bootBuiltins "len" = some (.builtin "len") := by decide +kernel
theorem bt_abs : bootBuiltins "abs" = some (.builtin "abs") := by decide +kernel
theorem bt_list : bootBuiltins "list" = some (.type "list") := by decide +kernel
theorem bt_range : bootBuiltins "range" = some (.type "range") := by decide +kernel
theorem bt_min : bootBuiltins "min" = some (.builtin "min") := by decide +kernel
theorem bt_max : bootBuiltins "max" = some (.builtin "max") := by decide +kernel
theorem bt_repr : bootBuiltins "repr" = some (.builtin "repr") := by decide +kernel
theorem bt_isinstance : bootBuiltins "isinstance" = some (.builtin "isinstance") := by decide +kernel
theorem bt_sum : bootBuiltins "sum" = some (.builtin "sum") := by decide +kernel
theorem bt_sorted : bootBuiltins "sorted" = some (.builtin "sorted") := by decide +kernel
theorem bt_any : bootBuiltins "any" = some (.builtin "any") := by decide +kernel
theorem bt_all : bootBuiltins "all" = some (.builtin "all") := by decide +kernel
theorem bt_tuple : bootBuiltins "tuple" = some (.type "tuple") := by decide +kernel
theorem bt_dict : bootBuiltins "dict" = some (.type "dict") := by decide +kernel
theorem bt_int : bootBuiltins "int" = some (.type "int") := by decide +kernel
theorem bt_str : bootBuiltins "str" = some (.type "str") := by decide +kernel
theorem bt_enumerate : bootBuiltins "enumerate" = some (.type "enumerate") := by decide +kernel
theorem bt_zip : bootBuiltins "zip" = some (.type "zip") := by decide +kernel
theorem bt_reversed : bootBuiltins "reversed" = some (.type "reversed") := by decide +kernel
theorem hu64 {A : Around} {k : Nat} (hr : Room k A) : A.units + 64 < cLine := by
  have := hr.un
  omega
end Wd

set_option Elab.async false
set_option linter.all false
set_option maxRecDepth 100000
set_option maxHeartbeats 4000000
/-! Defs that are run where no guard is known to run (repr asks for that): FnG beside FnOk. -/
namespace Wd
open PySem PySem.Spec PyProof.Rows L2

/-- as FnOk, for an Around without guards -/
structure FnG (P : Program) (w : World) (K : PySem.W.Frag) (mg : Str → Option Value) (base : Heap) (CX : CXT) (k : Nat) (f : Addr) (fd : FuncData) (ps : List Str) (sp : Sp) : Prop where
  len : ∀ xs G R E, sp xs G R E → xs.length = ps.length
  run : ∀ (A : Around) (out : List Env) (z : Shared) (G : Hp) (args : Args) (us : List Value) (xs : List V) (R : VK) (E : XK), A.guards = some [] → Room k A → Env0 P w K mg base A out z G →
    BindsTo z fd args (ps.zip us) → Vals xs us → sp xs G R E → codeAny (model P w) A (.call (.ref f) args) (CR CX out P w G z R E) z
theorem FnG.mono {P : Program} {w : World} {K : PySem.W.Frag} {mg : Str → Option Value} {base : Heap} {CX : CXT} {j k : Nat} {f : Addr} {fd : FuncData} {ps : List Str} {sp : Sp}
    (F : FnG P w K mg base CX j f fd ps sp) (h : j ≤ k) : FnG P w K mg base CX k f fd ps sp :=
  ⟨F.len, fun A out z G args us xs R E hg hr => F.run A out z G args us xs R E hg (hr.mono h)⟩
theorem fng_ok {P : Program} {w : World} {K : PySem.W.Frag} {mg : Str → Option Value} {base : Heap} {CX : CXT} {k : Nat} {f : Addr} {fd : FuncData} {ps : List Str} {sp : Sp}
    (F : FnOk P w K mg base CX k f fd ps sp) : FnG P w K mg base CX k f fd ps sp :=
  ⟨F.len, fun A out z G args us xs R E _ hr => F.run A out z G args us xs R E hr⟩
/-- a def by its body -/
theorem fng_of {CX : CXT} {P : Program} {w : World} {K : PySem.W.Frag} {mg : Str → Option Value} {base : Heap} {k : Nat} {f : Addr} {nm ql : Str} {pa : Arguments} {bd : List Stmt} {sc : Scope} {dV kV doc pm cv ct oc : Value} {an od : Option Addr}
    {sl : Array (Option Value)} {N ps : List Str} {sp : Sp} (lk : K.lookup f = some ⟨oc, od, .func (PySem.W.fnOf nm ql pa bd sc dV kV doc pm an cv ct), sl⟩) (hc : PySem.W.codeIn K cv ql = true) (S : FnScope N ps sc)
    (len : ∀ xs G R E, sp xs G R E → xs.length = ps.length)
    (hb : ∀ (A : Around) (out : List Env) (z : Shared) (G : Hp) (xs : List V) (R : VK) (E : XK), A.guards = some [] → Room k (A.deeper (envOfC ql sc z.heap.objs.size f cv)) → sp xs G R E →
      ∃ t, PSs (cxOf CX P w K mg base N ql sc f cv A out z G E) bd t ∧ t { nx := fun _ G' => R .non G', rt := R } (start N xs) G) :
    FnG P w K mg base CX (k + 1) f (PySem.W.fnOf nm ql pa bd sc dV kV doc pm an cv ct) ps sp := by
  refine ⟨len, fun A out z G args us xs R E hgd hrm en bind rel hsp => ?_⟩
  have hlen := len _ _ _ _ hsp
  have inK : K.In z.heap := en.mod.kin.keeps fun b o e => (en.bs b o e).1
  have nolim : z.heap.NoLimit := en.mod.nolimit.keeps fun b o e => (en.bs b o e).1
  have kinds : ∀ y ∈ ps.zip us, sc.names.lookup y.1 = some .local ∨ (sc.names.lookup y.1 = some .cell ∧ ((cellsFrom (z.heap.objs.size + 1) sc.names []).lookup y.1).isSome = true) := by
    rintro ⟨n, v⟩ hy
    rcases S.par n (List.of_mem_zip hy).1 with q | q
    · exact .inl q
    · exact .inr ⟨q, PySem.W.cellsFrom_some _ _ _ (.inl q)⟩
  refine codeAny_call_function hrm.depth (inK _ _ lk) rfl S.co S.gen rfl (PySem.W.codeRec_of inK hc) (bind _ _ _ _ ?_)
  refine wpAny_newFunctionEnv_cells S.kind kinds fun env ee z1 xx => ?_
  subst ee
  refine ⟨nolim.keeps xx.toInCall.keep, codeAny_func ?_⟩
  obtain ⟨t, ht, hq⟩ := hb A out z G xs R E hgd (hrm.deeper _) hsp
  have J0 : Inv (cxOf CX P w K mg base N ql sc f cv A out z G E) [] (start N xs) G z1 := inv_start S hrm.hd en hlen rel xx
  refine wpAny_mono (ht.run [] z1 (start N xs) G _ J0 hq) (fun fl z2 hs => ?_) fun e z2 hs => hs
  have fin : ∀ {τ : L2.St} {G' : Hp} {v : V} {u : Value}, Inv (cxOf CX P w K mg base N ql sc f cv A out z G E) [] τ G' z2 → RelV v u → R v G' → CE out P w G z R u z2 :=
    fun {τ G' v u} J rv q => ⟨v, G', J.os, J.bare, J.base, J.hok, rv, q⟩
  match fl, hs with
  | .ret u, hs =>
    obtain ⟨v, τ, G', J, rv, q⟩ := hs
    exact fin J rv q
  | .next, hs =>
    obtain ⟨τ, G', J, q⟩ := hs
    exact fin (v := V.non) (u := Value.none) J rfl q
  | .brk, ⟨_, _, _, q⟩ => exact False.elim q
  | .cont, ⟨_, _, _, q⟩ => exact False.elim q

/-- a def that may be called by its name, where no guard runs -/
structure CalG (P : Program) (w : World) (K : PySem.W.Frag) (mg : Str → Option Value) (base : Heap) (k : Nat) (x : Str) (sp : Sp) : Prop where
  ex : ∃ (f : Addr) (fd : FuncData) (ps : List Str), FnG P w K mg base CX0 k f fd ps sp ∧ mg x = some (.ref f) ∧ PySem.W.keepIn K (.ref f) = true ∧ Binds K fd ps []
theorem C8cal_g {P : Program} {w : World} {K : PySem.W.Frag} {mg : Str → Option Value} {base : Heap} {k : Nat} {f : Addr} {fd : FuncData} {ps : List Str} {x : Str} {sp : Sp}
    (F : FnOk P w K mg base CX0 k f fd ps sp) (hm : mg x = some (.ref f)) (kp : PySem.W.keepIn K (.ref f) = true) (b : Binds K fd ps []) : CalG P w K mg base k x sp := ⟨f, fd, ps, fng_ok F, hm, kp, b⟩
section
variable {P : Program} {w : World} {K : PySem.W.Frag} {mg : Str → Option Value} {base : Heap}
theorem fng {x : Str} {st : Stmt} {f : Addr} {fd : FuncData} {N ps : List Str} {k : Nat} {sp : Sp} (F : C8.Def K mg x st f fd) (S : FnScope N ps (C8.fnScope st)) (len : ∀ xs G R E, sp xs G R E → xs.length = ps.length)
    (hb : ∀ (cv : Value) (A : Around) (out : List Env) (z : Shared) (G : Hp) (xs : List V) (R : VK) (E : XK), (A.deeper (envOfC x (C8.fnScope st) z.heap.objs.size f cv)).guards = some [] → Room k (A.deeper (envOfC x (C8.fnScope st) z.heap.objs.size f cv)) → sp xs G R E →
      ∃ t, PSs (cxOf CX0 P w K mg base N x (C8.fnScope st) f cv A out z G E).nox (C8.fnBody st) t ∧ t { nx := fun _ G' => R .non G', rt := R } (start N xs) G) : FnG P w K mg base CX0 (k + 1) f fd ps sp := by
  obtain ⟨oc, od, dV, kV, doc, pm, an, cv, ct, sl, rfl, lk, hc⟩ := F.fn.ex
  refine fng_of lk hc S len fun A out z G xs R E hg hr hsp => ?_
  obtain ⟨t, h, q⟩ := hb cv A out z G xs R E hg hr hsp
  exact ⟨t, h.nox, q⟩
theorem calg {x : Str} {st : Stmt} {f : Addr} {fd : FuncData} {N ps : List Str} {k : Nat} {sp : Sp} (F : C8.Def K mg x st f fd) (b : Binds K fd ps []) (S : FnScope N ps (C8.fnScope st)) (len : ∀ xs G R E, sp xs G R E → xs.length = ps.length)
    (hb : ∀ (cv : Value) (A : Around) (out : List Env) (z : Shared) (G : Hp) (xs : List V) (R : VK) (E : XK), (A.deeper (envOfC x (C8.fnScope st) z.heap.objs.size f cv)).guards = some [] → Room k (A.deeper (envOfC x (C8.fnScope st) z.heap.objs.size f cv)) → sp xs G R E →
      ∃ t, PSs (cxOf CX0 P w K mg base N x (C8.fnScope st) f cv A out z G E).nox (C8.fnBody st) t ∧ t { nx := fun _ G' => R .non G', rt := R } (start N xs) G) : CalG P w K mg base (k + 1) x sp := by
  refine ⟨f, fd, ps, ?_, F.mgf, F.kp, b⟩
  obtain ⟨oc, od, dV, kV, doc, pm, an, cv, ct, sl, rfl, lk, hc⟩ := F.fn.ex
  refine fng_of lk hc S len fun A out z G xs R E hg hr hsp => ?_
  obtain ⟨t, h, q⟩ := hb cv A out z G xs R E hg hr hsp
  exact ⟨t, h.nox, q⟩
end
section
variable {X : Cx} {k j : Nat} {f : Addr} {fd : FuncData} {ps : List Str} {x : Str} {sp : Sp} {CX : CXT} {E : XK} {p pos : Pos} {e : Expr} {es : List Expr} {t : TA}
theorem run_fng {pins : List (Addr × Obj)} {σ : L2.St} {H : Hp} {s : Shared} {R : VK} {us : List Value} {xs : List V} (F : FnG X.prog X.w X.K X.mg X.base CX k f fd ps sp) (hgd : X.A.guards = some []) (hr : Room k X.A) (b : Binds X.K fd ps [])
    (hx : Passes CX X E) (I : Inv X pins σ H s) (r : Vals xs us) (h : sp xs H R E) : wpAny (model X.prog X.w) X.A (call (.ref f) us) (EP X pins σ R) X.xe s := by
  have hl : us.length = ps.length := by rw [← r.length]; exact F.len _ _ _ _ h
  have bb := b s us I.kIn (by rw [List.append_nil]; exact hl)
  rw [List.append_nil] at bb
  refine wpAny_call (codeAny_mono (F.run X.A X.stack s H ⟨us, []⟩ us xs R E hgd hr I.env0 bb r h) fun rr z hq => ?_)
  match rr, hq with
  | .error e, hq => exact hx pins σ H s e z I hq
  | .ok (.ret u), hq => exact I.after hq
  | .ok .next, hq => exact False.elim hq
  | .ok .brk, hq => exact False.elim hq
  | .ok .cont, hq => exact False.elim hq
theorem pe_g (c : CalG X.prog X.w X.K X.mg X.base k x sp) (hgd : X.A.guards = some []) (hr : Room j X.A) (hk : k ≤ j) (hg : Gl X x) (ha : PA X (e :: es) t) (hdb : (x == ("__debug__" : Str)) = false := by decide)
    (he : starEach (e :: es) X.env = (false, eval e X.env) :: starEach es X.env := by rfl) (hpl : (backTo pos (starEach es X.env)).any (·.1) = false := by rfl) :
    PE X (.Call (.Name x p) (e :: es) [] pos) (tCall sp [] E0 t) := by
  obtain ⟨f, fd, ps, F, hm, kp, b⟩ := c.ex
  refine ⟨fun pins s σ H Q I h => ?_⟩
  refine wpAny_Call_Name_kw (ld_glob I hg hm ?_ hdb)
  refine PySem.W.callWith_K (h₀ := X.base) I.ok.mod.kin kp (thn (ha.run pos pins s σ H _ I h) fun us s1 ⟨xs, H1, I1, r, q⟩ => ⟨I1.kIn, ?_⟩) he hpl
  refine run_fng F hgd (hr.mono hk) b pass0 I1 r ?_
  rw [← List.append_nil xs]
  exact q
theorem pe_c0 {dvs : List V} (c : C8.Cal X.prog X.w X.K X.mg X.base k x sp dvs) (hr : Room j X.A) (hk : k ≤ j) (hg : Gl X x) (hdb : (x == ("__debug__" : Str)) = false := by decide) : PE X (.Call (.Name x p) [] [] pos) (tCall sp dvs E0 tNil) := by
  obtain ⟨f, fd, ps, ds, F, hm, kp, b, d⟩ := c.ex
  exact pe_call0 F (hr.mono hk) hg hm kp b d pass0 hdb
end
end Wd

set_option Elab.async false
set_option linter.all false
set_option maxRecDepth 100000
set_option maxHeartbeats 4000000
/-! Exceptions of own classes, straight under one of Python's own, whose __init__ stores fields: made as values that are tracked. -/
namespace PySem
namespace WX
open PySem.W PySem.Calls PyProof.Rows PySem.HandSPX
/-- the classes of Python's own above an own error class -/
structure Tail (B newId initId : String) (bmB T : List Value) : Prop where
  F : ExcBaseFacts B newId initId bmB
  hB : T.contains (.type B) = true
  hA : T.contains (.type "AttributeError") = false
  hN : T.contains (.type "NameError") = false
  hO : T.contains (.type "object") = true
  ne : T.isEmpty = false
  pass : ∀ self, refuseLoop self "__setattr__" T = pure ()
def tlV : List Value := [.type "ValueError", .type "Exception", .type "BaseException", .type "object"]
def tlK : List Value := [.type "KeyError", .type "LookupError", .type "Exception", .type "BaseException", .type "object"]
def tlI : List Value := [.type "IndexError", .type "LookupError", .type "Exception", .type "BaseException", .type "object"]
def tlL : List Value := [.type "LookupError", .type "Exception", .type "BaseException", .type "object"]
def tlA : List Value := [.type "ArithmeticError", .type "Exception", .type "BaseException", .type "object"]
def tlO : List Value := [.type "OverflowError", .type "ArithmeticError", .type "Exception", .type "BaseException", .type "object"]
def tlR : List Value := [.type "RuntimeError", .type "Exception", .type "BaseException", .type "object"]
theorem tail_V : Tail "ValueError" "ValueError.__new__" "ValueError.__init__" tlV tlV := ⟨F.excBase_ValueError, by decide +kernel, by decide +kernel, by decide +kernel, by decide +kernel, rfl, fun self => by kernel_rfl⟩
theorem tail_K : Tail "LookupError" "LookupError.__new__" "LookupError.__init__" tlL tlK := ⟨F.excBase_LookupError, by decide +kernel, by decide +kernel, by decide +kernel, by decide +kernel, rfl, fun self => by kernel_rfl⟩
theorem tail_I : Tail "IndexError" "IndexError.__new__" "IndexError.__init__" tlI tlI := ⟨F.excBase_IndexError, by decide +kernel, by decide +kernel, by decide +kernel, by decide +kernel, rfl, fun self => by kernel_rfl⟩
theorem tail_L : Tail "LookupError" "LookupError.__new__" "LookupError.__init__" tlL tlL := ⟨F.excBase_LookupError, by decide +kernel, by decide +kernel, by decide +kernel, by decide +kernel, rfl, fun self => by kernel_rfl⟩
theorem tail_A : Tail "ArithmeticError" "ArithmeticError.__new__" "ArithmeticError.__init__" tlA tlA := ⟨F.excBase_ArithmeticError, by decide +kernel, by decide +kernel, by decide +kernel, by decide +kernel, rfl, fun self => by kernel_rfl⟩
theorem tail_O : Tail "OverflowError" "OverflowError.__new__" "OverflowError.__init__" tlO tlO := ⟨F.excBase_OverflowError, by decide +kernel, by decide +kernel, by decide +kernel, by decide +kernel, rfl, fun self => by kernel_rfl⟩
theorem tail_R : Tail "RuntimeError" "RuntimeError.__new__" "RuntimeError.__init__" tlR tlR := ⟨F.excBase_RuntimeError, by decide +kernel, by decide +kernel, by decide +kernel, by decide +kernel, rfl, fun self => by kernel_rfl⟩
section
variable {prog : Program} {w : World} {M : Model} {A : Around} {E : Value → Shared → Prop} {R : Result → Shared → Prop} {h : Heap} {g : Array GenState} {d : Drawn} {t : Nat} {os : OsState}
variable {nm q : Str} {C N : Addr} {bs T bmB : List Value} {sn : List Str} {sub : List Value} {ab : Bool} {col : Option Bool} {dd : Option Addr} {k0 k1 k2 k3 k5 : Option Value} {B newId initId : String}
theorem xc_check (Z : Tail B newId initId bmB T) {more : List Value} {kw : List (Str × Value)} {Q : Unit → Shared → Prop} (cC : h.get? C = some (excClassObj nm q C N bs T true sn sub ab col dd k0 k1 k2 k3 k5 newId))
    (fin : Q () ⟨h, g, d, t, os⟩) : wpAny M A (checkBuiltinCall newId ⟨.ref C :: more, kw⟩) Q E ⟨h, g, d, t, os⟩ := by
  have inB : (Value.ref C :: T).contains (.type B) = true := by rw [List.contains_cons, Z.hB, Bool.or_true]
  have star := Z.F.noStar
  simp only [checkBuiltinCall, Z.F.newKind, Z.F.newSplit, Z.F.newRow]
  repeat (first | refine wpAny_loadPart_at cC ?_ | (refine wpAny_isSubtype_exc cC ?_; rw [inB]) | refine wpAny_staticBase_exc cC ?_ | refine wpAny_madeBy_exc cC ?_ | simp only [bne_self_eq_false, Bool.false_eq_true, if_false] | wp_step)
  exact fin
theorem xc_new (Z : Tail B newId initId bmB T) {more : List Value} {kw : List (Str × Value)} (cC : h.get? C = some (excClassObj nm q C N bs T true sn sub ab col dd k0 k1 k2 k3 k5 newId)) (hz : more.length ≤ sizeLine)
    (fin : R (.ok (.ret (.ref (h.objs.size + 1)))) ⟨(h.push { cls := .type "tuple", data := .seq more.toArray }).push { cls := .ref C, data := .fields #[.ref h.objs.size, .none, .none, .none, .bool false, .none] }, g, d, t, os⟩) :
    codeAny (model prog w) A (.builtin newId ⟨.ref C :: more, kw⟩) R ⟨h, g, d, t, os⟩ := by
  have ends := Z.F.ends
  have inB : (Value.ref C :: T).contains (.type B) = true := by rw [List.contains_cons, Z.hB, Bool.or_true]
  have noA : (Value.ref C :: T).contains (.type "AttributeError") = false := by rw [List.contains_cons, Z.hA]; rfl
  have noN : (Value.ref C :: T).contains (.type "NameError") = false := by rw [List.contains_cons, Z.hN]; rfl
  refine codeAny_builtinAt Z.F.entry ?_
  unfold Builtin.«BaseException.__new__»
  refine wpAt_bind ?_
  show wpAt _ _ _ (stack >>= _) _ _ _
  refine wpAt_bind (wpAt_stack fun p below => wpAt_of_wpAny ?_)
  wp_walk
  refine wpAt_of_wpAny ?_
  rw [Z.F.owner]
  repeat (first | with_reducible refine wpAny_madeHere_exc Z.F.canon cC ?_ | with_reducible refine wpAny_loadPart_at cC ?_ | (with_reducible refine wpAny_isSubtype_exc cC ?_; first | rw [inB] | rw [noA] | rw [noN]) | wp_step)
  show R _ _
  rw [Heap.size_push]
  exact fin
theorem xc_type_call (Z : Tail B newId initId bmB T) {more : List Value} {kw : List (Str × Value)} {fI : Addr} {Q : Fin → Shared → Prop} (cC : h.get? C = some (excClassObj nm q C N bs T true sn sub ab col dd k0 k1 k2 k3 k5 newId))
    (li : W.Looks (model prog w) h (typeLookup (.ref C) "__init__") (some (.ref fI))) (lb : ∀ self, W.Looks (model prog w) h (bindSpecial (.ref fI) self) (.ref fI, [self])) (hz : more.length ≤ sizeLine)
    (run : codeAny (model prog w) A (.call (.ref fI) ⟨.ref (h.objs.size + 1) :: more, kw⟩)
      (fun r s' => match r with | .ok (.ret v) => v = .none ∧ Q (.done (.ret (.ref (h.objs.size + 1)))) s' | .ok _ => False | .error e => E e s') ⟨(h.push (W.kdv_tup more)).push (excO C h.objs.size), g, d, t, os⟩) :
    wpAny (model prog w) A (Builtin.«type.__call__» ⟨.ref C :: more, kw⟩) Q E ⟨h, g, d, t, os⟩ := by
  repeat (first | with_reducible refine wpAny_loadPart_at cC ?_ | with_reducible refine wpAny_madeBy_exc cC ?_ | wp_step)
  refine codeAny_call_builtin_code (Code.quiet_builtin _ Z.F.quiet) (xc_check Z cC ?_)
  refine xc_new Z cC hz ?_
  show wpAny _ _ _ _ _ _
  have kk : ∀ b o, h.get? b = some o → ((h.push (W.kdv_tup more)).push (excO C h.objs.size)).get? b = some o := fun b o e => Heap.get?_push_of_some _ (Heap.get?_push_of_some _ e)
  have cC2 := kk _ _ cC
  have at1 : ((h.push (W.kdv_tup more)).push (excO C h.objs.size)).get? (h.objs.size + 1) = some (excO C h.objs.size) := by heap_get
  have self : (Value.ref C :: T).contains (.ref C) = true := by simp
  have l1 := li.keeps kk
  have l2 := (lb (.ref (h.objs.size + 1))).keeps kk
  unfold isInstance
  repeat (first | with_reducible refine wpAny_loadPart_at at1 ?_ | (with_reducible refine wpAny_isSubtype_exc cC2 ?_; rw [self]) | wp_step)
  show wpAny _ _ (typeLookup (.ref C) _) _ _ _
  refine l1.at ?_
  refine wpAny_holding (wpAny_bind (l2.at ?_))
  refine wpAny_bind (wpAny_call (codeAny_mono run fun r s' zz => ?_))
  rcases r with e | (v | _ | _ | _) <;> first | exact zz | exact zz.elim | skip
  obtain ⟨rfl, zz⟩ := zz
  first
    | exact wpAny_pure (wpAny_pure zz)
    | (wp_walk; exact zz)
theorem xc_call (Z : Tail B newId initId bmB T) {more : List Value} {kw : List (Str × Value)} {fI : Addr} (cC : h.get? C = some (excClassObj nm q C N bs T true sn sub ab col dd k0 k1 k2 k3 k5 newId))
    (li : W.Looks (model prog w) h (typeLookup (.ref C) "__init__") (some (.ref fI))) (lb : ∀ self, W.Looks (model prog w) h (bindSpecial (.ref fI) self) (.ref fI, [self])) (hz : more.length ≤ sizeLine)
    (run : codeAny (model prog w) (A.under (.builtin "type.__call__" ⟨.ref C :: more, kw⟩)) (.call (.ref fI) ⟨.ref (h.objs.size + 1) :: more, kw⟩) (W.InitBack (h.objs.size + 1) R)
      ⟨(h.push (W.kdv_tup more)).push (excO C h.objs.size), g, d, t, os⟩) :
    codeAny (model prog w) A (.call (.ref C) ⟨more, kw⟩) R ⟨h, g, d, t, os⟩ := by
  have e1 := tc_lookup
  have e2 := tc_bind (.ref C)
  have isTy : (⟨h, g, d, t, os⟩ : Shared).TypeIs (.ref C) "type" := ⟨_, cC, rfl⟩
  refine codeAny_of_tree ?_
  show wpAny _ _ (callAny (.ref C) _) _ _ _
  repeat (any_goals (first | assumption | with_reducible refine wpAny_loadPart_at cC ?_ | wp_step))
  refine ⟨rfl, ?_⟩
  refine codeAny_call_builtin_at (Code.quiet_builtin _ (by decide +kernel)) entry_typeCall (wpAny_check_type_call_sub cC (xc_type_call Z cC li lb hz ?_))
  refine codeAny_mono run fun r s' zz => ?_
  rcases r with e | (v | _ | _ | _) <;> exact zz
end
section
open Builtin Builtin.ObjectAttr
variable {prog : Program} {w : World} {A : Around} {R : Result → Shared → Prop} {hp : Heap} {g : Array GenState} {d : Drawn} {t : Nat} {os : OsState} {B newId initId : String} {bmB T : List Value}
/-- self.name = v, the first field -/
theorem xc_store1 (Z : Tail B newId initId bmB T) {K : W.Frag} {name nm qn : Str} {tk : Tok} {v : Value} {x C N : Addr} {fv : Array Value} {bs sb : List Value} {sn : List Str} {ab : Bool} {col : Option Bool} {del : Bool}
    (inK : K.In hp) (ox : hp.get? x = some { cls := .ref C, data := .fields fv })
    (cd : W.clsIn K C = some { name := nm, bases := bs, mro := .ref C :: T, ns := N, qualname := qn, hasDict := true, slotNames := sn, subclasses := sb, abstract := ab, collection := col, hasDel := del }) (off : W.findIn K (.ref C) name = some none)
    (fin : ∀ h' tk' dx, (∀ b o, b ≠ x → hp.get? b = some o → h'.get? b = some o) → hp.objs.size ≤ dx → dx ≠ x → h'.get? x = some { cls := .ref C, dict := some dx, data := .fields fv } →
      h'.Ns1 dx (fun y => if y = name then some v else none) → R (.ok (.ret .none)) ⟨h', g, d, tk', os⟩) :
    codeAny (model prog w) A (.call (.builtin "object.__setattr__") ⟨[.ref x, .str name tk, v], []⟩) R ⟨hp, g, d, t, os⟩ := by
  have at0 : W.InstAt hp x { cls := .ref C, data := .fields fv } C none := ⟨ox, rfl, rfl, trivial⟩
  have SF := F.store_object
  have hob : (Value.ref C :: T).contains (.type "object") = true := by rw [List.contains_cons, Z.hO, Bool.or_true]
  have ne : x ≠ hp.objs.size := Nat.ne_of_lt (Heap.lt_size ox)
  have isObj : W.Looks (model prog w) hp (isInstance (.ref x) (.type "object")) true := at0.type.andThen (W.looks_mroIn inK (by unfold W.mroIn; rw [cd, Option.bind_some, if_neg (by simp), hob]))
  refine codeAny_call_builtin SF.slot.plain SF.entry (@W.check_slot (model prog w) _ _ ⟨hp, g, d, t, os⟩ "object.__setattr__" "object" "__setattr__" (.ref x) [.str name tk, v] [] _ SF.kind SF.split isObj (SF.args (.ref x) (.str name tk) v) ?_)
  have l1 : W.Looks (model prog w) hp (mroOf (.ref C)) (.ref C :: T) := (W.looks_clsIn inK cd).andThen .now
  have l2 : W.Looks (model prog w) hp (storeTaker? none) none := .now
  have l3 := W.looks_clsIn (M := model prog w) inK cd
  rw [W.osa_eq, refuse_eq]
  refine wpAny_bind (wpAny_bind (at0.type.at (wpAny_bind (l1.at ?_))))
  rw [refuseLoop_ref, Z.pass]
  refine wpAny_pure (wpAny_bind (at0.type.at (wpAny_bind ((W.looks_findIn inK off).at (wpAny_bind (l2.at ?_))))))
  show wpAny _ _ (storeInOwnDict (.ref x) (.ref C) (.str name tk) name v false) _ _ _
  unfold storeInOwnDict ownDictForStores
  repeat (first | with_reducible refine store_in_new ?_ ?_ | with_reducible refine wpAny_loadPart_at ox ?_ | with_reducible refine l3.at ?_ | wp_step)
  · exact ⟨_, #[], _, (Heap.get?_update_ne _ _ _ _ ne.symm).trans (Heap.get?_push_at rfl rfl), rfl, fun e he => absurd he (by simp), fun _ => rfl⟩
  · intro h' tk' hn' same
    have ox2 : (hp.push { cls := .type "dict", data := .dict #[] }).get? x = some { cls := .ref C, data := .fields fv } := Heap.get?_push_of_some _ ox
    refine fin h' tk' hp.objs.size (fun b o hb ho => ?_) (Nat.le_refl _) ne.symm ?_ hn'
    · exact (same.2 b (Nat.ne_of_lt (Heap.lt_size ho))).trans ((Heap.get?_update_ne _ _ _ _ hb).trans (Heap.get?_push_of_some _ ho))
    · exact (same.2 x ne).trans (Heap.get?_update_self _ ox2 rfl)
/-- a further field -/
theorem xc_store2 (Z : Tail B newId initId bmB T) {K : W.Frag} {name nm qn : Str} {tk : Tok} {v : Value} {x C N dx : Addr} {fv : Array Value} {bs sb : List Value} {sn nl : List Str} {ab : Bool} {col : Option Bool} {del : Bool} {m0 : Str → Option Value}
    (inK : K.In hp) (ox : hp.get? x = some { cls := .ref C, dict := some dx, data := .fields fv }) (hns : hp.Ns1 dx m0) (hw : Within m0 nl) (hz : nl.length ≤ 1000)
    (cd : W.clsIn K C = some { name := nm, bases := bs, mro := .ref C :: T, ns := N, qualname := qn, hasDict := true, slotNames := sn, subclasses := sb, abstract := ab, collection := col, hasDel := del }) (off : W.findIn K (.ref C) name = some none)
    (fin : ∀ h' tk', (∀ b o, b ≠ dx → hp.get? b = some o → h'.get? b = some o) → h'.Ns1 dx (fun y => if y = name then some v else m0 y) → R (.ok (.ret .none)) ⟨h', g, d, tk', os⟩) :
    codeAny (model prog w) A (.call (.builtin "object.__setattr__") ⟨[.ref x, .str name tk, v], []⟩) R ⟨hp, g, d, t, os⟩ := by
  obtain ⟨oD, esD, epD, hoD, hdD, _⟩ := hns.count hw
  have at0 : W.InstAt hp x { cls := .ref C, dict := some dx, data := .fields fv } C (some oD) := ⟨ox, rfl, rfl, hoD⟩
  have SF := F.store_object
  have hob : (Value.ref C :: T).contains (.type "object") = true := by rw [List.contains_cons, Z.hO, Bool.or_true]
  have isObj : W.Looks (model prog w) hp (isInstance (.ref x) (.type "object")) true := at0.type.andThen (W.looks_mroIn inK (by unfold W.mroIn; rw [cd, Option.bind_some, if_neg (by simp), hob]))
  refine codeAny_call_builtin SF.slot.plain SF.entry (@W.check_slot (model prog w) _ _ ⟨hp, g, d, t, os⟩ "object.__setattr__" "object" "__setattr__" (.ref x) [.str name tk, v] [] _ SF.kind SF.split isObj (SF.args (.ref x) (.str name tk) v) ?_)
  have l1 : W.Looks (model prog w) hp (mroOf (.ref C)) (.ref C :: T) := (W.looks_clsIn inK cd).andThen .now
  have l2 : W.Looks (model prog w) hp (storeTaker? none) none := .now
  have l3 := W.looks_clsIn (M := model prog w) inK cd
  rw [W.osa_eq, refuse_eq]
  refine wpAny_bind (wpAny_bind (at0.type.at (wpAny_bind (l1.at ?_))))
  rw [refuseLoop_ref, Z.pass]
  refine wpAny_pure (wpAny_bind (at0.type.at (wpAny_bind ((W.looks_findIn inK off).at (wpAny_bind (l2.at ?_))))))
  show wpAny _ _ (storeInOwnDict (.ref x) (.ref C) (.str name tk) name v false) _ _ _
  unfold storeInOwnDict ownDictForStores
  repeat (first | with_reducible refine OEX.store_in_old hns hw hz ?_ | with_reducible refine wpAny_loadPart_at ox ?_ | with_reducible refine l3.at ?_ | wp_step)
  intro h' tk' hn' same
  exact fin h' tk' (fun b o hb ho => (same.2 b hb).trans ho) hn'
end
end WX
end PySem

namespace Wd
open PySem PySem.Spec PyProof.Rows L2
/-- what the written part says of an own error class at C (fields' names never found on the class) -/
structure Xc (K : PySem.W.Frag) (C : Addr) (B newId initId : String) (bmB T : List Value) : Prop where
  Z : PySem.WX.Tail B newId initId bmB T
  cls : ∃ nm q N bs sn sub ab col dd k0 k1 k2 k3 k5, K.lookup C = some (excClassObj nm q C N bs T true sn sub ab col dd k0 k1 k2 k3 k5 newId)
  sa : PySem.W.findIn K (.ref C) "__setattr__" = some (some (.builtin "object.__setattr__"))
  ga : PySem.W.findIn K (.ref C) "__getattribute__" = some (some (.builtin "BaseException.__getattribute__"))
  gg : PySem.W.findIn K (.ref C) "__getattr__" = some none
  exC : PySem.W.subIn K (.ref C) (.type "BaseException") = some true
  tyC : PySem.W.typeIn K (.ref C) = some (.type "type")
  kC : PySem.W.keepIn K (.ref C) = true
theorem Xc.cd {K : PySem.W.Frag} {C : Addr} {B newId initId : String} {bmB T : List Value} (c : Xc K C B newId initId bmB T) :
    ∃ nm bs N q sn sub ab col, PySem.W.clsIn K C = some { name := nm, bases := bs, mro := .ref C :: T, ns := N, qualname := q, hasDict := true, slotNames := sn, subclasses := sub, abstract := ab, collection := col, hasDel := false } := by
  obtain ⟨nm, q, N, bs, sn, sub, ab, col, dd, k0, k1, k2, k3, k5, hC⟩ := c.cls
  exact ⟨nm, bs, N, q, sn, sub, ab, col, by unfold PySem.W.clsIn; rw [hC] <;> rfl⟩
section
variable {X : Cx} {pins : List (Addr × Obj)} {σ : L2.St} {H : Hp} {s : Shared} {a C dx : Addr} {f : Str} {y : V} {u : Value} {fs : List (Str × V)} {Q : Unit → Shared → Prop} {E : Value → Shared → Prop} {A : Around} {B newId initId : String} {bmB T : List Value}
theorem xst_new (c : Xc X.K C B newId initId bmB T) (I : Inv X pins σ H s) (e : H a = some (exo a C none)) (off : PySem.W.findIn X.K (.ref C) f = some none) (ry : RelV y u)
    (k : ∀ dx s', H dx = none → dx ≠ a → Inv X pins σ (upd (upd H dx (exd dx [(f, y)])) a (exo a C (some dx))) s' → Q () s') : wpAny (model X.prog X.w) A (setAttr (.ref a) f u) Q E s := by
  obtain ⟨nm, bs, N, q, sn, sub, ab, col, cd⟩ := c.cd
  obtain ⟨t1, ho⟩ := exo_at I.hok e
  obtain ⟨hp, g, d, t, os⟩ := s
  refine PySem.W.set_plain I.kIn (ox := { cls := .ref C, dict := none, data := .fields #[.ref t1, .none, .none, .none, .bool false, .none] }) (od := none) ⟨ho, rfl, rfl, trivial⟩ c.sa ?_
  refine PySem.WX.xc_store1 c.Z I.kIn ho cd off (fun h' tk' dx kp dn dne hx hn => ?_)
  have free : H dx = none := I.hok.fresh dn
  have old : ∀ {b : Addr} {o : Obj}, hp.get? b = some o → b ≠ dx := fun {b o} z => Nat.ne_of_lt (Nat.lt_of_lt_of_le (Heap.lt_size z) dn)
  have na : ∀ {b : Addr}, H b = none → b ≠ a := fun {b} n z => by
    rw [z, e] at n
    cases n
  have U : Un X.fs [] H (upd (upd H dx (exd dx [(f, y)])) a (exo a C (some dx))) hp h' := {
    keep := fun b o z n _ _ => kp b o (na n) z
    slot := fun b o z n _ _ => ⟨o.slots, kp b o (na n) z⟩
    free := fun b o z n _ => by
      rw [upd_ne (na n), upd_ne (old z)]
      exact n
    there := fun b o z _ => by
      by_cases hb : b = a
      · exact ⟨_, by rw [hb]; exact hx⟩
      · exact ⟨o, kp b o hb z⟩
    tups := fun b xs z => by
      rw [upd_ne (at_ne e z exo_tup), upd_ne (ne_of_none z free)]
      exact z
    frzs := fun b o v z => by
      rw [upd_ne (at_ne e z exo_frz), upd_ne (ne_of_none z free)]
      exact z
    tbls := fun b ps z => ⟨#[], by rw [upd_ne (at_ne e z exo_tbl), upd_ne (ne_of_none z free), z]; simp⟩ }
  refine k dx _ free dne (I.un (t' := tk') U fun b o z => ?_)
  by_cases hb : b = a
  · subst hb
    rw [upd_same] at z
    cases z
    exact exo_ok hx
  · rw [upd_ne hb] at z
    by_cases hd : b = dx
    · subst hd
      rw [upd_same] at z
      cases z
      exact exd_ok hn (relO_put (fs := []) ry fun g => True.intro)
    · rw [upd_ne hd] at z
      refine (I.hok b o z).stay (fun c' v hc zz => kp c' v ?_ zz) (fun c' hc => ?_) (fun c' xs hc => ?_)
      · rcases hc with hc | hc
        · rw [hc]
          exact hb
        · exact at_ne e hc exo_own
      · rw [upd_ne (at_ne e hc exo_own), upd_ne (ne_of_none hc free)]
        exact hc
      · rw [upd_ne (at_ne e hc exo_tup), upd_ne (ne_of_none hc free)]
        exact hc
theorem xst_old (c : Xc X.K C B newId initId bmB T) (I : Inv X pins σ H s) (e : H a = some (exo a C (some dx))) (ed : H dx = some (exd dx fs)) (hl : fs.length ≤ 900) (off : PySem.W.findIn X.K (.ref C) f = some none) (ry : RelV y u)
    (k : ∀ s', Inv X pins σ (upd H dx (exd dx ((f, y) :: fs))) s' → Q () s') : wpAny (model X.prog X.w) A (setAttr (.ref a) f u) Q E s := by
  obtain ⟨nm, bs, N, q, sn, sub, ab, col, cd⟩ := c.cd
  obtain ⟨t1, ho⟩ := exo_at I.hok e
  obtain ⟨mA, hns, rel⟩ := exd_at I.hok ed
  have hw := within_of rel
  obtain ⟨hp, g, d, t, os⟩ := s
  obtain ⟨oD, _, _, hoD, _, _⟩ := hns.count hw
  refine PySem.W.set_plain I.kIn (ox := { cls := .ref C, dict := some dx, data := .fields #[.ref t1, .none, .none, .none, .bool false, .none] }) (od := some oD) ⟨ho, rfl, rfl, hoD⟩ c.sa ?_
  refine PySem.WX.xc_store2 c.Z I.kIn ho hns hw (by rw [List.length_map]; omega) cd off (fun h' tk' kp hn => ?_)
  have there : ∃ o, h'.get? dx = some o := by
    obtain ⟨o, _, _, e', _⟩ := hn
    exact ⟨o, e'⟩
  exact k _ (I.write (t' := tk') (x := dx) (e := dx) (o := exd dx ((f, y) :: fs)) (by rw [ed]; exact True.intro) (.inl rfl) kp there (exd_ok hn (relO_put ry rel)))
/-- self.f = e within an own error's __init__ -/
def tXst (K : PySem.W.Frag) (f : Str) (to te : TE) : TS := fun D σ H => te σ H fun y H1 => to σ H1 fun x H2 => ∃ (a C : Addr) (B newId initId : String) (bmB T : List Value), x = .ref a ∧ Xc K C B newId initId bmB T ∧ PySem.W.findIn K (.ref C) f = some none ∧
  ((H2 a = some (exo a C none) ∧ ∀ dx, H2 dx = none → dx ≠ a → D.nx σ (upd (upd H2 dx (exd dx [(f, y)])) a (exo a C (some dx)))) ∨
    ∃ (dx : Addr) (fs : List (Str × V)), H2 a = some (exo a C (some dx)) ∧ H2 dx = some (exd dx fs) ∧ fs.length ≤ 900 ∧ D.nx σ (upd H2 dx (exd dx ((f, y) :: fs))))
theorem ps_xst {o e : Expr} {to te : TE} {p' pos : Pos} (ho : PE X o to) (he : PE X e te) (hs : swapsWith e (some (.Attribute o f p')) pos.line X.env = pure false := by rfl) : PS X (.Assign [.Attribute o f p'] e pos) (tXst X.K f to te) := by
  refine ⟨fun pins s σ H D I h => ?_⟩
  refine plainObj_wpAny_Assign_Attribute (thn (he.run pins s σ H _ I h) fun v s1 ⟨y, H1, I1, r1, q1⟩ => thn (ho.run pins s1 σ H1 _ I1 q1) fun u s2 ⟨x, H2, I2, r2, a, C, B, newId, initId, bmB, T, ex, c, off, q⟩ => ?_) hs
  subst ex
  obtain rfl : u = Value.ref a := r2
  rcases q with ⟨ea, q⟩ | ⟨dx, fs, ea, ed, hl, q⟩
  · exact xst_new c I2 ea off r1 fun dx s' n ne J => ⟨σ, _, J, q dx n ne⟩
  · exact xst_old c I2 ea ed hl off r1 fun s' J => ⟨σ, _, J, q⟩
end

/-- C(e, .., k = v, ..) of an own error class with an __init__ -/
def tXmake (C : Addr) (n m : Nat) (sp : Sp) (gV : List V → List V → List V) (t tk : TA) : TE := fun σ H Q => t σ H fun vs H1 => tk σ H1 fun zs H2 => vs.length = n ∧ zs.length = m ∧
  ∀ a, H2 a = none → sp (gV (.ref a :: vs) zs) (upd H2 a (exo a C none)) (fun v H3 => v = .non ∧ Q (.ref a) H3) E0
section
variable {X : Cx} {k n : Nat} {fI C : Addr} {fd : FuncData} {ps ks : List Str} {sp : Sp} {x : Str} {p pos : Pos} {e : Expr} {es : List Expr} {kws : List Keyword} {t tk : TA} {g : List Value → List Value → List Value} {gV : List V → List V → List V} {B newId initId : String} {bmB T : List Value}
theorem run_xmake {pins : List (Addr × Obj)} {σ : L2.St} {H : Hp} {s : Shared} {Q : VK} {us ws : List Value} {vs zs : List V} (c : Xc X.K C B newId initId bmB T) (iC : PySem.W.findIn X.K (.ref C) "__init__" = some (some (.ref fI)))
    (tI : PySem.W.typeIn X.K (.ref fI) = some (.type "function")) (F : FnOk X.prog X.w X.K X.mg X.base CX0 k fI fd ps sp) (hr : Room (k + 1) X.A) (hb : KBn X.K fd ps (n + 1) ks g gV) (I : Inv X pins σ H s) (r : Vals vs us) (rz : Vals zs ws)
    (l1 : vs.length = n) (l2 : zs.length = ks.length) (hn : n ≤ 1000) (h : ∀ a, H a = none → sp (gV (.ref a :: vs) zs) (upd H a (exo a C none)) (fun v H3 => v = .non ∧ Q (.ref a) H3) E0) :
    wpAny (model X.prog X.w) X.A (call (.ref C) us (ks.zip ws)) (EP X pins σ Q) X.xe s := by
  obtain ⟨nm, q, N, bs, sn, sub, ab, col, dd, k0, k1, k2, k3, k5, hC⟩ := c.cls
  obtain ⟨hp, gn, dr, tk0, os⟩ := s
  have up : hp.objs.size ≤ hp.objs.size + 1 := Nat.le_succ _
  have hq := h (hp.objs.size + 1) (I.hok.fresh up)
  have kk : ∀ b o, hp.get? b = some o → ((hp.push (PySem.W.kdv_tup us)).push (PySem.HandSPX.excO C hp.objs.size)).get? b = some o := fun b o e => Heap.get?_push_of_some _ (Heap.get?_push_of_some _ e)
  have at1 : ((hp.push (PySem.W.kdv_tup us)).push (PySem.HandSPX.excO C hp.objs.size)).get? (hp.objs.size + 1) = some (PySem.HandSPX.excO C hp.objs.size) := by heap_get
  have J : Inv X pins σ (upd H (hp.objs.size + 1) (exo (hp.objs.size + 1) C none)) ⟨(hp.push (PySem.W.kdv_tup us)).push (PySem.HandSPX.excO C hp.objs.size), gn, dr, tk0, os⟩ :=
    I.laid (t' := tk0) (a := hp.objs.size + 1) (o := exo (hp.objs.size + 1) C none) (h' := (hp.push (PySem.W.kdv_tup us)).push (PySem.HandSPX.excO C hp.objs.size)) kk up (exo_ok at1)
  have r1 : Vals (V.ref (hp.objs.size + 1) :: vs) (Value.ref (hp.objs.size + 1) :: us) := .cons rfl r
  have r2 := hb.rel r1 rz
  have e1 : (Value.ref (hp.objs.size + 1) :: us).length = n + 1 := r1.length.symm.trans (congrArg Nat.succ l1)
  have e2 : ws.length = ks.length := rz.length.symm.trans l2
  have hus : us.length ≤ sizeLine := by
    rw [← Paired.length r, sizeLine_eq]
    omega
  refine wpAny_call (PySem.WX.xc_call c.Z (I.kIn _ _ hC) (PySem.W.looks_findIn I.kIn iC) (fun self => PySem.W.bind_fn I.kIn self tI) hus
    (codeAny_mono (F.run _ X.stack _ _ ⟨Value.ref (hp.objs.size + 1) :: us, ks.zip ws⟩ (g (Value.ref (hp.objs.size + 1) :: us) ws) _ _ E0 (hr.make C us (ks.zip ws)) (J.env0.make C us (ks.zip ws)) (hb.to _ (Value.ref (hp.objs.size + 1) :: us) ws J.kIn e1 e2) r2 hq) fun rr z hq' => ?_))
  match rr, hq' with
  | .error e, hq' => exact pass0 pins σ _ _ e z J hq'
  | .ok (.ret u), hq' =>
    obtain ⟨v, H', J3, rv, ev, q3⟩ := J.after hq'
    subst ev
    exact ⟨rv, V.ref (hp.objs.size + 1), H', J3, rfl, q3⟩
  | .ok .next, hq' => exact False.elim hq'
  | .ok .brk, hq' => exact False.elim hq'
  | .ok .cont, hq' => exact False.elim hq'
theorem pe_xmake (c : Xc X.K C B newId initId bmB T) (iC : PySem.W.findIn X.K (.ref C) "__init__" = some (some (.ref fI))) (tI : PySem.W.typeIn X.K (.ref fI) = some (.type "function")) (F : FnOk X.prog X.w X.K X.mg X.base CX0 k fI fd ps sp) (hr : Room (k + 1) X.A)
    (hb : KBn X.K fd ps (n + 1) [] g gV) (hn : n ≤ 1000) (hg : Gl X x) (hm : X.mg x = some (.ref C)) (ha : PA X (e :: es) t) (hdb : (x == ("__debug__" : Str)) = false := by decide)
    (he : starEach (e :: es) X.env = (false, eval e X.env) :: starEach es X.env := by rfl) (hpl : (backTo pos (starEach es X.env)).any (·.1) = false := by rfl) :
    PE X (.Call (.Name x p) (e :: es) [] pos) (tXmake C n 0 sp gV t tNil) := by
  refine ⟨fun pins s σ H Q I h => ?_⟩
  refine wpAny_Call_Name_kw (ld_glob I hg hm ?_ hdb)
  refine PySem.W.callWith_K (h₀ := X.base) I.ok.mod.kin c.kC (thn (ha.run pos pins s σ H _ I h) fun us s1 ⟨vs, H1, I1, r, l1, _, q⟩ => ⟨I1.kIn, ?_⟩) he hpl
  exact run_xmake (ks := []) (ws := []) (zs := []) c iC tI F hr hb I1 r .nil l1 rfl hn q
theorem pe_xmakeK (c : Xc X.K C B newId initId bmB T) (iC : PySem.W.findIn X.K (.ref C) "__init__" = some (some (.ref fI))) (tI : PySem.W.typeIn X.K (.ref fI) = some (.type "function")) (F : FnOk X.prog X.w X.K X.mg X.base CX0 k fI fd ps sp) (hr : Room (k + 1) X.A)
    (hb : KBn X.K fd ps 1 ks g gV) (hg : Gl X x) (hm : X.mg x = some (.ref C)) (hkw : PK X kws tk) (hdb : (x == ("__debug__" : Str)) = false := by decide) (hall : (backToKw pos (keywordEach kws X.env)).all (·.1.isSome) = true := by rfl)
    (hks : (backToKw pos (keywordEach kws X.env)).filterMap (·.1) = ks := by rfl) (hpl : ((backTo pos (starEach [] X.env)).any (·.1) || (backToKw pos (keywordEach kws X.env)).any (·.1.isNone)) = false := by rfl) :
    PE X (.Call (.Name x p) [] kws pos) (tXmake C 0 ks.length sp gV tNil tk) := by
  refine ⟨fun pins s σ H Q I h => ?_⟩
  refine wpAny_Call_Name_kw (ld_glob I hg hm ?_ hdb)
  refine PySem.W.callWith_KW0 (h₀ := X.base) I.ok.mod.kin c.kC hall ?_ hpl
  refine thn (hkw.run pos pins s σ H _ I h) fun ws s2 ⟨zs, H2, I2, rz, _, l2, q2⟩ => ⟨I2.kIn, ?_⟩
  rw [hks]
  exact run_xmake (n := 0) (vs := []) (us := []) c iC tI F hr hb I2 .nil rz rfl l2 (by decide) q2
end
end Wd
namespace PySem.W
open PySem PySem.Spec PySem.Calls PyProof.Rows
section
variable {prog : Program} {w : World} {A : Around} {E : Value → Shared → Prop} {s : Shared} {K : Frag} {x D : Addr} {ox : Obj} {od : Option Obj}
theorem xfind_cls {g a : Value} {nm : Str} (hc : (clsIn K D).isSome = true) (f1 : findIn K (.ref D) nm = some (some a)) (f2 : specialIn K a "__get__" = some (some g)) (f3 : takesIn K a = some true) : findObj K D od nm = some (.bind g a) := by
  obtain ⟨cd, hc⟩ := Option.isSome_iff_exists.mp hc
  unfold findObj
  rw [hc, Option.bind_some, f1, Option.bind_some]
  cases od <;> simp [f2, f3]
end
end PySem.W

set_option Elab.async false
set_option linter.all false
set_option maxRecDepth 100000
set_option maxHeartbeats 4000000
/-! Tracked exceptions: their fields read, isinstance of them, such without an __init__ made. -/
namespace PySem.W
open PySem PySem.Spec PySem.Calls PyProof.Rows
section
variable {prog : Program} {w : World} {A : Around} {E : Value → Shared → Prop} {s : Shared} {K : Frag} {x D : Addr} {ox : Obj} {od : Option Obj}
/-- what the class at D says so that its instances may be asked by isinstance -/
structure XIs (K : Frag) (D : Addr) : Prop where
  hga : findIn K (.ref D) "__getattribute__" = some (some (.builtin "BaseException.__getattribute__"))
  hgt : findIn K (.ref D) "__getattr__" = some none
  hsub : subIn K (.ref D) (.type "BaseException") = some true
  hdct : hasDictIn K D = true
  ha : findIn K (.ref D) "__class__" = some (some (.builtin "object.__class__"))
  hn : specialIn K (.builtin "object.__class__") "__get__" = some (some (.builtin "getset_descriptor.__get__"))
  htk : takesIn K (.builtin "object.__class__") = some true
  hm : mroIn K D (.type "object") = some true
theorem x_class {Q : Option Value → Shared → Prop} (Z : XIs K D) (inK : K.In s.heap) (I : InstAt s.heap x ox D od) (fin : Q (some (.ref D)) { s with toks := s.toks + 1 }) : wpAny (model prog w) A (getAttr? (.ref x) "__class__") Q E s := by
  have found : findObj K D od "__class__" = some (.bind (.builtin "getset_descriptor.__get__") (.builtin "object.__class__")) := xfind_cls (by obtain ⟨cd, hc, _⟩ := any_some Z.hdct; rw [hc]; rfl) Z.ha Z.hn Z.htk
  obtain ⟨hp, g, d, t, os⟩ := s
  have l0 := I.type (M := model prog w)
  have l1 := looks_findIn (M := model prog w) inK Z.hga
  have l2 := looks_findIn (M := model prog w) inK Z.hgt
  have l3 := looks_find (M := model prog w) inK I found
  have isB : Looks (model prog w) hp (isInstance (.ref x) (.type "BaseException")) true := l0.andThen (looks_subIn inK Z.hsub)
  have q0 : (false && onTheHeap (Value.builtin "BaseException.__getattribute__")) = false := rfl
  have q2 : (Value.builtin "BaseException.__getattribute__" == Value.builtin "object.__getattribute__") = false := by decide +kernel
  have q1 : (onTheHeap (Value.ref D) && Value.builtin "BaseException.__getattribute__" == Value.builtin "object.__getattribute__") = false := by rw [q2]; rfl
  unfold getAttr? getAttrBy? getAttrBy
  refine wpAny_bind (wpAny_mkText (wpAny_bind (wpAny_attempt (wpAny_holding (wpAny_bind (l0.at (wpAny_bind (l1.at ?_))))))))
  show wpAny _ _ (if (onTheHeap (Value.ref D) && Value.builtin "BaseException.__getattribute__" == Value.builtin "object.__getattribute__") = true then _ else _) _ _ _
  rw [q1, if_neg Bool.false_ne_true]
  unfold getAttrByItsOwn hookBefore
  refine wpAny_bind ?_
  rw [if_pos (show onTheHeap (Value.ref D) = true from rfl)]
  refine l2.at ?_
  refine wpAny_bind (wpAny_attempt (wpAny_holding ?_))
  unfold callGetattribute
  rw [q0, if_neg Bool.false_ne_true]
  unfold boundAndCalled
  rw [PySem.F.excAttr_ValueError.ga.bind (.ref x)]
  refine wpAny_bind (wpAny_pure ?_)
  show wpAny _ _ (call (.builtin "BaseException.__getattribute__") [.ref x, .str "__class__" t]) _ _ _
  refine wpAny_call (codeAny_call_builtin PySem.F.excAttr_ValueError.ga.plain PySem.F.entry_bexc_ga ?_)
  refine @check_slot (model prog w) _ _ ⟨hp, g, d, t + 1, os⟩ "BaseException.__getattribute__" "BaseException" "__getattribute__" (.ref x) [.str "__class__" t] [] _ (by decide +kernel) (by decide +kernel) isB (PySem.F.args_bexc_ga (.ref x) (.str "__class__" t)) ?_
  unfold Builtin.«object.__getattribute__»
  refine wpAny_bind (wpAny_of_eq (a := ((Value.ref x : Value), [Value.str "__class__" t])) (by first | rfl | (simp only [slotArgs]; rfl)) ?_)
  refine wpAny_bind (wpAny_pure (wpAny_bind (l0.at (wpAny_bind (l3.at ?_)))))
  show wpAny _ _ (holding [Value.builtin "object.__class__"] (call (.builtin "getset_descriptor.__get__") [.builtin "object.__class__", .ref x, .ref D]) >>= ret) _ _ _
  refine wpAny_bind (wpAny_holding (wpAny_call (class_get (s := ⟨hp, g, d, t + 1, os⟩) (ox := ox) (od := od) inK I Z.hm ?_)))
  refine wpAny_pure ?_
  show wpAny _ _ (handedOut (.ref D)) _ _ _
  rw [handedOut_of (v := .ref D) rfl]
  first
    | exact wpAny_pure (wpAny_pure fin)
    | exact wpAny_pure fin
    | exact wpAny_pure (wpAny_bind (wpAny_pure (wpAny_pure fin)))
theorem x_kit (Z : XIs K D) : KitX K (.ref x) (.ref D) (fun h => ∃ ox od, InstAt h x ox D od) where
  ty := fun _ _ _ ⟨_, _, I⟩ => I.type
  it := fun _ _ inK _ => by
    obtain ⟨cdD, hcD, _⟩ := any_some Z.hdct
    unfold clsIn at hcD
    split at hcD
    · rename_i c' d' cd' sl' ho
      intro A' Q' E' s' k q
      unfold isType loadHead
      exact wpAny_bind (wpAny_loadPart (k _ _ (inK _ _ ho)) (wpAny_pure q))
    · cases hcD
  ne := fun h tp dd its n sl inK htp => by
    obtain ⟨cdD, hcD, _⟩ := any_some Z.hdct
    refine Bool.eq_false_iff.mpr fun q => ?_
    have e : D = tp := Value.ref.inj (beq_iff_eq.mp q)
    subst e
    unfold clsIn at hcD
    split at hcD
    · rename_i c' d' cd' sl' ho
      have z := (inK _ _ ho).symm.trans htp
      cases z
    · cases hcD
  ca := fun inK ⟨_, _, I⟩ k => x_class Z inK I k
end
end PySem.W
namespace Wd
open PySem PySem.Spec PyProof.Rows L2
/-- a caught exception that is kept -/
def exk (a C : Addr) (d : Option Addr) : HO := .ext fun h => ∃ (oe : Obj) (vs : Array Value), h.get? a = some oe ∧ oe.cls = .ref C ∧ oe.dict = d ∧ oe.data = .fields vs
theorem exk_ok {P : Program} {w : World} {H : Hp} {h : Heap} {a C : Addr} {d : Option Addr} {oe : Obj} {vs : Array Value} (e : h.get? a = some oe) (c : oe.cls = .ref C) (dd : oe.dict = d) (f : oe.data = .fields vs) : ObjOk P w H h a (exk a C d) :=
  ⟨⟨oe, vs, e, c, dd, f⟩, ⟨oe, e⟩, fun _ _ ⟨o, v, q, r⟩ k => ⟨o, v, k o q, r⟩⟩
/-- at a: an exception of the class at C, its dict d -/
def ExAt (H : Hp) (a C : Addr) (d : Option Addr) : Prop := H a = some (exo a C d) ∨ H a = some (exk a C d) ∨ (d = none ∧ H a = some (ExO (.ref C) a))
def ExD (H : Hp) (dx : Addr) (fs : List (Str × V)) : Prop := H dx = some (exd dx fs) ∨ H dx = some (.xd fs)
theorem ExAt.get {P : Program} {w : World} {H : Hp} {h : Heap} {a C : Addr} {d : Option Addr} (x : ExAt H a C d) (ok : HOk P w H h) : ∃ (oe : Obj) (vs : Array Value), h.get? a = some oe ∧ oe.cls = .ref C ∧ oe.dict = d ∧ oe.data = .fields vs := by
  rcases x with x | x | ⟨rfl, x⟩
  · obtain ⟨t1, e⟩ := exo_at ok x
    exact ⟨_, _, e, rfl, rfl, rfl⟩
  · have z : ObjOk P w H h a (.ext _) := ok a _ x
    exact z.1
  · have z : ObjOk P w H h a (.ext _) := ok a _ x
    obtain ⟨oe, vs, e, zc, dd, _⟩ := z.1
    exact ⟨oe, vs, e, zc.1, zc.2, dd⟩
theorem ExD.get {P : Program} {w : World} {H : Hp} {h : Heap} {dx : Addr} {fs : List (Str × V)} (x : ExD H dx fs) (ok : HOk P w H h) : ∃ mA, h.Ns1 dx mA ∧ ∀ f, RelO (fs.lookup f) (mA f) := by
  rcases x with x | x
  · exact exd_at ok x
  · exact ok dx _ x
def ExF (H : Hp) (d : Option Addr) : Prop := d = none ∨ ∃ dx fs, d = some dx ∧ ExD H dx fs
section
variable {X : Cx} {pins : List (Addr × Obj)} {σ : L2.St} {H : Hp} {s : Shared}
theorem inst_of {a C : Addr} {d : Option Addr} (I : Inv X pins σ H s) (x : ExAt H a C d) (f : ExF H d) : ∃ ox od, PySem.W.InstAt s.heap a ox C od := by
  obtain ⟨oe, vs, e, c, dd, dt⟩ := x.get I.hok
  rcases f with rfl | ⟨dx, fs, rfl, y⟩
  · exact ⟨oe, none, e, c, by unfold PySem.W.notCls; rw [dt] <;> rfl, by rw [dd]; exact True.intro⟩
  · obtain ⟨mA, hns, _⟩ := y.get I.hok
    obtain ⟨od, ho, _⟩ := lookIn_ns hns
    exact ⟨oe, some od, e, c, by unfold PySem.W.notCls; rw [dt] <;> rfl, by rw [dd]; exact ho⟩
end
/-- isinstance(e, C), e a tracked exception -/
def rIsX (K : PySem.W.Frag) : List V → Hp → VK → Prop := fun xs H Q => ∃ (a C : Addr) (d : Option Addr) (c : V) (u : Value) (b : Bool), xs = [.ref a, c] ∧ PySem.W.XIs K C ∧ ExAt H a C d ∧ ExF H d ∧ ClsV c u ∧ PySem.W.kitOne K (.ref C) u = some b ∧ Q (.bl b) H
def rIsXT (K : PySem.W.Frag) : List V → Hp → VK → Prop := fun xs H Q => ∃ (a C : Addr) (d : Option Addr) (tp : Addr) (cs : List V) (us : List Value) (b : Bool), xs = [.ref a, .ref tp] ∧ H tp = some (.tup cs) ∧ Paired ClsV cs us ∧ PySem.W.XIs K C ∧ ExAt H a C d ∧ ExF H d ∧
  PySem.W.kitAny K (.ref C) us = some b ∧ Q (.bl b) H
/-- e.f, e a tracked exception -/
def tXattr (K : PySem.W.Frag) (te : TE) (n : Str) : TE := fun σ H Q => te σ H fun x H1 => ∃ (a C dx : Addr) (fs : List (Str × V)) (v : V), x = .ref a ∧ PySem.W.XIs K C ∧ ExAt H1 a C (some dx) ∧ ExD H1 dx fs ∧ PySem.W.findIn K (.ref C) n = some none ∧ fs.lookup n = some v ∧ Q v H1
section
variable {X : Cx}
theorem call_isX : CallR X (.builtin "isinstance") (rIsX X.K) := by
  intro pins s σ H xs us Q I r h
  obtain ⟨a, C, d, c, u, b, rfl, Z, x, f, k, e, q⟩ := h
  obtain ⟨u1, u2, rfl, r1, r2⟩ := vals2 r
  have e2 := k.eq r2
  subst e2
  cases (show u1 = Value.ref a from r1)
  exact PySem.W.kia_one (PySem.W.x_kit Z) I.kIn (inst_of I x f) e (fun z => nomatch z) fun tk => ⟨.bl b, H, I.tok tk, rfl, q⟩
theorem call_isXT : CallR X (.builtin "isinstance") (rIsXT X.K) := by
  intro pins s σ H xs us Q I r h
  obtain ⟨a, C, d, tp, cs, ws, b, rfl, hT, k, Z, x, f, e, q⟩ := h
  obtain ⟨u1, u2, rfl, r1, r2⟩ := vals2 r
  cases (show u2 = Value.ref tp from r2)
  cases (show u1 = Value.ref a from r1)
  obtain ⟨_, its, rv, o, h1, h2, n, h3⟩ := (show ObjOk X.prog X.w H s.heap tp (.tup cs) from I.hok tp _ hT)
  have e3 := ClsV.all k rv
  subst e3
  obtain ⟨oc, od, dt, sl⟩ := o
  simp only at h2 h3
  subst h2 h3
  exact PySem.W.kia_tup (PySem.W.x_kit Z) I.kIn (inst_of I x f) h1 e (fun z => nomatch z) fun tk => ⟨.bl b, H, I.tok tk, rfl, q⟩
/-- isinstance of anything that is told, by one class or a tuple of them -/
def rIsAny (K : PySem.W.Frag) : List V → Hp → VK → Prop := fun xs H Q => (rIsX K xs H Q ∨ rIsXT K xs H Q) ∨ (rIsi K xs H Q ∨ rIsiT K xs H Q)
theorem call_isAny : CallR X (.builtin "isinstance") (rIsAny X.K) := by
  intro pins s σ H xs us Q I r h
  rcases h with (h | h) | (h | h)
  · exact call_isX pins s σ H xs us Q I r h
  · exact call_isXT pins s σ H xs us Q I r h
  · exact call_isi pins s σ H xs us Q I r h
  · exact call_isiT pins s σ H xs us Q I r h
theorem pe_xattr {e : Expr} {te : TE} {n : Str} {pos : Pos} (he : PE X e te) (hb : attributeBase e n X.env (eval e X.env) = eval e X.env := by rfl) : PE X (.Attribute e n pos) (tXattr X.K te n) := by
  refine ⟨fun pins s σ H Q I h => ?_⟩
  refine attr_of hb (thn (he.run pins s σ H _ I h) fun u s1 ⟨y, H1, I1, rx, a, C, dx, fs, v, ey, Z, x, dct, off, l, q⟩ => ?_)
  subst ey
  obtain rfl : u = Value.ref a := rx
  obtain ⟨oe, vs, e1, c1, d1, t1⟩ := x.get I1.hok
  obtain ⟨mA, hns, hr⟩ := dct.get I1.hok
  obtain ⟨od, ho, hl⟩ := lookIn_ns hns
  obtain ⟨u2, hu, ru⟩ := RelO.some_of (v := v) (o := mA n) (by rw [← l]; exact hr n)
  have J : PySem.W.InstAt s1.heap a oe C (some od) := ⟨e1, c1, by unfold PySem.W.notCls; rw [t1] <;> rfl, by rw [d1]; exact ho⟩
  exact HandSPX.exc_get I1.kIn J Z.hga Z.hgt Z.hsub (PySem.W.findObj_own Z.hdct off rfl (by rw [hl, hu])) (handed_of ru) ⟨v, H1, I1.tok _, ru, q⟩
/-- C() of an own error class without __init__ -/
theorem pe_xmake0 {C : Addr} {bmB : List Value} {B newId initId : String} {x : Str} {p pos : Pos} (F : ExcBaseFacts B newId initId bmB) (q : PySem.W.excIn X.K C bmB newId = true) (gC : X.mg x = some (.ref C)) (kC : PySem.W.keepIn X.K (.ref C) = true) (hg : Gl X x)
    (hdb : (x == ("__debug__" : Str)) = false := by decide) : PE X (.Call (.Name x p) [] [] pos) (fun _ H Q => ∀ a, H a = none → Q (.ref a) (upd H a (ExO (.ref C) a))) := by
  refine ⟨fun pins s σ H Q I h => ?_⟩
  refine wpAny_Call_Name_kw (ld_glob I hg gC ?_ hdb)
  refine PySem.W.callWith_K0 I.kIn kC ?_
  show wpAny _ _ (call (.ref C) []) _ _ _
  obtain ⟨bm, N, nm, qn, bs, hdct, sn, sub, ab, col, dd, k0, k1, k2, k3, k5, mN, hC, hN, hni, T⟩ := exc_obj I.kIn q
  refine wpAny_call_exc_subT F T hC hN hni (fun h' a hm => ?_) (by show 0 ≤ sizeLine; omega)
  have hn : H a = none := I.hok.gone hm.new
  obtain ⟨t, ht, _, _⟩ := hm.there
  exact ⟨.ref a, upd H a (ExO (.ref C) a), I.laidN hm.keeps hm.new hn (exO_ok ht ⟨rfl, rfl⟩ rfl rfl rfl (show 4 < 6 by decide)), rfl, h a hn⟩
end
end Wd

set_option Elab.async false
set_option linter.all false
set_option maxRecDepth 100000
set_option maxHeartbeats 4000000
/-! Own error classes of one field, of two, of none: what a text's class must show, what making one answers. -/
namespace Wd
open PySem PySem.Spec PyProof.Rows L2
/-- at a: an exception of the class at C with these fields -/
def ExOne (H : Hp) (a C : Addr) (fs : List (Str × V)) : Prop := ∃ d, ExAt H a C d ∧ ((fs = [] ∧ d = none) ∨ ∃ dx, d = some dx ∧ ExD H dx fs)
theorem ExAt.mono {H H' : Hp} {a C : Addr} {d : Option Addr} (s : Same H H') (x : ExAt H a C d) : ExAt H' a C d := by
  rcases x with x | x | ⟨e, x⟩
  · exact .inl (s _ _ x)
  · exact .inr (.inl (s _ _ x))
  · exact .inr (.inr ⟨e, s _ _ x⟩)
theorem ExD.mono {H H' : Hp} {dx : Addr} {fs : List (Str × V)} (s : Same H H') (x : ExD H dx fs) : ExD H' dx fs := by
  rcases x with x | x
  · exact .inl (s _ _ x)
  · exact .inr (s _ _ x)
theorem ExOne.mono {H H' : Hp} {a C : Addr} {fs : List (Str × V)} (s : Same H H') (x : ExOne H a C fs) : ExOne H' a C fs := by
  obtain ⟨d, x, y⟩ := x
  refine ⟨d, x.mono s, ?_⟩
  rcases y with y | ⟨dx, e, y⟩
  · exact .inl y
  · exact .inr ⟨dx, e, y.mono s⟩
theorem ExOne.f {H : Hp} {d : Option Addr} {fs : List (Str × V)} (y : (fs = [] ∧ d = none) ∨ ∃ dx, d = some dx ∧ ExD H dx fs) : ExF H d := by
  rcases y with ⟨_, e⟩ | ⟨dx, e, y⟩
  · exact .inl e
  · exact .inr ⟨dx, _, e, y⟩
/-- all but what stands at p is as it was -/
def Kp (p : Addr) (H H' : Hp) : Prop := ∀ a o, a ≠ p → H a = some o → H' a = some o
theorem Kp.refl (p : Addr) (H : Hp) : Kp p H H := fun _ _ _ h => h
theorem Kp.trans {p : Addr} {H H1 H2 : Hp} (a : Kp p H H1) (b : Kp p H1 H2) : Kp p H H2 := fun x o n h => b x o n (a x o n h)
theorem Kp.at {p : Addr} {H H1 : Hp} {o : HO} (a : Kp p H H1) : Kp p H (upd H1 p o) := fun x u n h => by rw [upd_ne n]; exact a x u n h
theorem Kp.new {p l : Addr} {H H1 : Hp} {o : HO} (a : Kp p H H1) (h : H1 l = none) : Kp p H (upd H1 l o) := fun x u n e => by rw [upd_ne (ne_of_none (a x u n e) h)]; exact a x u n e
theorem Kp.same {p : Addr} {H H1 H2 : Hp} (a : Kp p H H1) (s : Same H1 H2) : Kp p H H2 := fun x o n h => s x o (a x o n h)
theorem same_new {H : Hp} {l : Addr} {o : HO} (n : H l = none) : Same H (upd H l o) := fun b u e => by rw [upd_ne (ne_of_none e n)]; exact e
/-- a new thing at a, changed while it is made: all that was known stays -/
theorem Kp.born {a : Addr} {o : HO} {H H' : Hp} (k : Kp a (upd H a o) H') (n : H a = none) : Same H H' := fun b u e => by
  have ne : b ≠ a := ne_of_none e n
  exact k b u ne (by rw [upd_ne ne]; exact e)
/-! ### the promises of an __init__ -/
def XcE (K : PySem.W.Frag) (C : Addr) : Prop := ∃ (B newId initId : String) (bmB T : List Value), Xc K C B newId initId bmB T
def spI1 (K : PySem.W.Frag) (f : Str) : Sp := fun vs H Q _ => ∃ (a C : Addr) (y : V), vs = [.ref a, y] ∧ XcE K C ∧ PySem.W.findIn K (.ref C) f = some none ∧ H a = some (exo a C none) ∧ ∀ H', Kp a H H' → ExOne H' a C [(f, y)] → Q .non H'
def spI2 (K : PySem.W.Frag) (f g : Str) : Sp := fun vs H Q _ => ∃ (a C : Addr) (y z : V), vs = [.ref a, y, z] ∧ XcE K C ∧ PySem.W.findIn K (.ref C) f = some none ∧ PySem.W.findIn K (.ref C) g = some none ∧ H a = some (exo a C none) ∧
  ∀ H', Kp a H H' → ExOne H' a C [(g, z), (f, y)] → Q .non H'
/-- what making one answers -/
theorem x1_ans {K : PySem.W.Frag} {C : Addr} {f : Str} {y : V} {H : Hp} {Q : VK} (c : XcE K C) (off : PySem.W.findIn K (.ref C) f = some none) (k : ∀ a H', H a = none → Same H H' → ExOne H' a C [(f, y)] → Q (.ref a) H') :
    ∀ a, H a = none → spI1 K f [.ref a, y] (upd H a (exo a C none)) (fun v H3 => v = .non ∧ Q (.ref a) H3) E0 :=
  fun a n => ⟨a, C, y, rfl, c, off, upd_same, fun H' kp x => ⟨rfl, k a H' n (kp.born n) x⟩⟩
theorem x2_ans {K : PySem.W.Frag} {C : Addr} {f g : Str} {y z : V} {H : Hp} {Q : VK} (c : XcE K C) (off : PySem.W.findIn K (.ref C) f = some none) (off2 : PySem.W.findIn K (.ref C) g = some none) (k : ∀ a H', H a = none → Same H H' → ExOne H' a C [(g, z), (f, y)] → Q (.ref a) H') :
    ∀ a, H a = none → spI2 K f g [.ref a, y, z] (upd H a (exo a C none)) (fun v H3 => v = .non ∧ Q (.ref a) H3) E0 :=
  fun a n => ⟨a, C, y, z, rfl, c, off, off2, upd_same, fun H' kp x => ⟨rfl, k a H' n (kp.born n) x⟩⟩
structure XA where
  C : Addr
  fI : Addr
  fd : FuncData
section
variable (P : Program) (w : World) (K : PySem.W.Frag) (mg : Str → Option Value) (base : Heap)
structure XOne (x : Str) (q : XA) (f : Str) (B newId initId : String) (bmB T : List Value) : Prop where
  gC : mg x = some (.ref q.C)
  xc : Xc K q.C B newId initId bmB T
  xi : PySem.W.XIs K q.C
  off : PySem.W.findIn K (.ref q.C) f = some none
  iC : PySem.W.findIn K (.ref q.C) "__init__" = some (some (.ref q.fI))
  tI : PySem.W.typeIn K (.ref q.fI) = some (.type "function")
  F : FnOk P w K mg base CX0 1 q.fI q.fd ["self", f] (spI1 K f)
  bp : KBn K q.fd ["self", f] 2 [] (fun us _ => us) (fun vs _ => vs)
  bk : KBn K q.fd ["self", f] 1 [f] (fun us ws => us ++ ws) (fun vs zs => vs ++ zs)
structure XTwo (x : Str) (q : XA) (f g : Str) (B newId initId : String) (bmB T : List Value) : Prop where
  gC : mg x = some (.ref q.C)
  xc : Xc K q.C B newId initId bmB T
  xi : PySem.W.XIs K q.C
  off : PySem.W.findIn K (.ref q.C) f = some none
  off2 : PySem.W.findIn K (.ref q.C) g = some none
  iC : PySem.W.findIn K (.ref q.C) "__init__" = some (some (.ref q.fI))
  tI : PySem.W.typeIn K (.ref q.fI) = some (.type "function")
  F : FnOk P w K mg base CX0 1 q.fI q.fd ["self", f, g] (spI2 K f g)
  bp : KBn K q.fd ["self", f, g] 3 [] (fun us _ => us) (fun vs _ => vs)
  bk : KBn K q.fd ["self", f, g] 1 [g, f] (fun us ws => us ++ ws.reverse) (fun vs zs => vs ++ zs.reverse)
structure XNil (x : Str) (q : XA) (B newId initId : String) (bmB T : List Value) : Prop where
  gC : mg x = some (.ref q.C)
  xc : Xc K q.C B newId initId bmB T
  xi : PySem.W.XIs K q.C
  kC : PySem.W.keepIn K (.ref q.C) = true
  eF : ExcBaseFacts B newId initId bmB
  eq : PySem.W.excIn K q.C bmB newId = true
end
/-! ### isinstance among own error classes -/
theorem kit_self {K : PySem.W.Frag} {C : Addr} : PySem.W.kitOne K (.ref C) (.ref C) = some true := by
  unfold PySem.W.kitOne
  rw [if_pos (by simp)]
theorem Xc.sub {K : PySem.W.Frag} {C : Addr} {B newId initId : String} {bmB T : List Value} (c : Xc K C B newId initId bmB T) (v : Value) : PySem.W.subIn K (.ref C) v = some ((Value.ref C :: T).contains v) := by
  obtain ⟨nm, bs, N, q, sn, sub, ab, col, cd⟩ := c.cd
  show PySem.W.mroIn K C v = _
  unfold PySem.W.mroIn
  rw [cd, Option.bind_some, if_neg (by simp)]
def isTyV : Value → Bool
  | .type _ => true
  | _ => false
def noRefs (T : List Value) : Bool := T.all isTyV
theorem noRefs_ref {a : Addr} : ∀ {T : List Value}, noRefs T = true → T.contains (.ref a) = false
  | [], _ => rfl
  | v :: T, h => by
    have h' : isTyV v = true ∧ noRefs T = true := by
      have z : (isTyV v && T.all isTyV) = true := h
      rw [Bool.and_eq_true] at z
      exact z
    rw [List.contains_cons, noRefs_ref h'.2]
    cases v <;> first | rfl | exact absurd h'.1 Bool.false_ne_true
theorem kit_two {K : PySem.W.Frag} {C D : Addr} {B newId initId B' newId' initId' : String} {bmB T bmB' T' : List Value} (c : Xc K C B newId initId bmB T) (d : Xc K D B' newId' initId' bmB' T') (nr : noRefs T = true) :
    PySem.W.kitOne K (.ref C) (.ref D) = some (decide (C = D)) := by
  by_cases e : C = D
  · subst e
    rw [decide_eq_true rfl]
    exact kit_self
  · obtain ⟨nm, bs, N, q, sn, sub, ab, col, cd⟩ := d.cd
    have ne : (Value.ref C == Value.ref D) = false := beq_eq_false_iff_ne.mpr fun z => e (Value.ref.inj z)
    have ne2 : (Value.ref D == Value.ref C) = false := beq_eq_false_iff_ne.mpr fun z => e (Value.ref.inj z).symm
    unfold PySem.W.kitOne PySem.W.kitCls
    rw [if_neg (by rw [ne]; simp)]
    show (if ((PySem.W.clsIn K D).isSome && PySem.W.typeIn K (Value.ref D) == some (Value.type "type")) = true then PySem.W.subIn K (Value.ref C) (Value.ref D) else none) = _
    rw [d.tyC, cd, if_pos (by simp), c.sub, List.contains_cons, ne2, noRefs_ref nr, decide_eq_false e]
    rfl
theorem kit_base {K : PySem.W.Frag} {C : Addr} {B newId initId : String} {bmB T : List Value} (c : Xc K C B newId initId bmB T) {S : String} (m : PySem.W.kitMeta S = true) : PySem.W.kitOne K (.ref C) (.type S) = some (T.contains (.type S)) := by
  unfold PySem.W.kitOne PySem.W.kitCls
  rw [if_neg (by simp)]
  show (if PySem.W.kitMeta S = true then PySem.W.subIn K (Value.ref C) (Value.type S) else none) = _
  rw [if_pos m, c.sub, List.contains_cons]
  rfl
theorem nr_V : noRefs PySem.WX.tlV = true := rfl
theorem nr_K : noRefs PySem.WX.tlK = true := rfl
theorem nr_I : noRefs PySem.WX.tlI = true := rfl
theorem nr_L : noRefs PySem.WX.tlL = true := rfl
theorem nr_A : noRefs PySem.WX.tlA = true := rfl
theorem nr_O : noRefs PySem.WX.tlO = true := rfl
theorem nr_R : noRefs PySem.WX.tlR = true := rfl
end Wd

set_option Elab.async false
set_option linter.all false
set_option maxRecDepth 100000
set_option maxHeartbeats 4000000
/-! The end of a law whose def is an FnG. -/
namespace Wd
open PySem PySem.Spec PyProof.Rows L2 PySem.W PySem.Calls
theorem end_core {P : Program} {w : World} {K : PySem.W.Frag} {mg mb : Str → Option Value} {k : Nat} {fa a : Addr} {fd : FuncData} {x : Str} {sp : Sp} {z : Shared} {us : List Value} {ks : List Int}
    (inK : K.In z.heap) (hns : z.heap.Ns mainGlobals mg) (hb : z.heap.Ns builtinsNs mb) (hbb : ∀ x : Str, x ≠ "__name__" → mb x = bootBuiltins x) (nolim : z.heap.NoLimit) (hgn : z.gens = #[])
    (obj : z.heap.get? a = some { cls := .type "list", data := .seq us.toArray }) (hr : Room k callerA)
    (F : ∀ base : Heap, K.In base → base.Ns mainGlobals mg → FnG P w K mg base CX0 k fa fd [x] sp) (bind : ∀ (s : Shared) (u : Value), BindsTo s fd ⟨[u], []⟩ [(x, u)])
    (G : Hp) (only : Only G) (hsp : sp [.ref a] G (fun v _ => v = .bl true) fun _ _ _ => False) (ok : HOk P w G z.heap) (trackA : ∀ b, G b ≠ none → b = a) (offK : G a ≠ none → K.lookup a = none) :
    codeAny (model P w) callerA (.call (.ref fa) ⟨[.ref a], []⟩) (fun r z2 => r = .ok (.ret (.bool true)) ∧ OldK z.heap z2.heap ∧ z2.os = z.os ∧ AllBare z2.gens) z := by
  have notDict : ∀ {b : Addr} {o : Obj} {es : Array DictEntry} {ep : Nat}, z.heap.get? b = some o → o.data = .dict es ep → G b = none := by
    intro b o es ep e d
    cases q : G b with
    | none => rfl
    | some u =>
      have eb : b = a := trackA b (by rw [q]; simp)
      subst eb
      rw [obj] at e
      cases e
      have dd : Data.seq us.toArray _ = Data.dict es ep := d
      cases dd
  have ns2 : ∀ {b : Addr} {m : Str → Option Value}, z.heap.Ns b m → (hidT z.heap G).Ns b m := fun {b m} ⟨o, es, ep, e, d, r⟩ => ⟨o, es, ep, hidT_get e (notDict e d), d, r⟩
  have inB : K.In (hidT z.heap G) := by
    intro b o e
    refine hidT_get (inK b o e) ?_
    cases q : G b with
    | none => rfl
    | some u =>
      have eb : b = a := trackA b (by rw [q]; simp)
      subst eb
      rw [offK (by rw [q]; simp)] at e
      cases e
  have hM : Mod K mg (hidT z.heap G) := ⟨inB, ns2 hns, ⟨mb, ns2 hb, hbb⟩, let ⟨mc, h1, h2⟩ := nolim; ⟨mc, ns2 h1, h2⟩⟩
  have en : Env0 P w K mg (hidT z.heap G) callerA [] z G := ⟨rfl, hM, fun b o e => of_hidT e, Nat.le_of_eq (hidT_size _ _), trivial, (by intro b hb; cases hb), ok, .of_eq hgn⟩
  refine codeAny_mono ((F _ inB (ns2 hns)).run callerA [] z G ⟨[.ref a], []⟩ [.ref a] [.ref a] _ _ rfl hr en (bind z (.ref a)) (.cons rfl .nil) hsp) fun r z2 h => ?_
  match r, h with
  | .error e, h => exact False.elim h
  | .ok .next, h => exact False.elim h
  | .ok .brk, h => exact False.elim h
  | .ok .cont, h => exact False.elim h
  | .ok (.ret u), ⟨v, G', os, bare, un, ok', rv, q⟩ =>
    have q' : v = .bl true := q
    subst q'
    obtain rfl : u = Value.bool true := rv
    refine ⟨rfl, OldK.of_keep fun b o e => ?_, os, bare⟩
    cases q : G b with
    | none => exact un.keep b o e q (by intro t; cases t) (by simp)
    | some u =>
      rcases only b with t | ⟨ob, xs, t⟩
      · rw [q] at t; cases t
      · have t2 := un.frzs b ob _ t
        obtain ⟨e1, _⟩ := ok b _ t
        obtain ⟨e2, _⟩ := ok' b _ t2
        rw [e] at e1
        cases e1
        exact e2
theorem end_call {P : Program} {w : World} {K : PySem.W.Frag} {mg mb : Str → Option Value} {k : Nat} {fa a : Addr} {fd : FuncData} {x : Str} {sp : Sp} {z : Shared} {us : List Value} {ks : List Int}
    (inK : K.In z.heap) (hns : z.heap.Ns mainGlobals mg) (hb : z.heap.Ns builtinsNs mb) (hbb : ∀ x : Str, x ≠ "__name__" → mb x = bootBuiltins x) (nolim : z.heap.NoLimit) (hgn : z.gens = #[])
    (obj : z.heap.get? a = some { cls := .type "list", data := .seq us.toArray }) (hi : IntsAre us ks) (hl : ks.length ≤ sizeLine) (hr : Room k callerA)
    (F : ∀ base : Heap, K.In base → base.Ns mainGlobals mg → FnG P w K mg base CX0 k fa fd [x] sp) (bind : ∀ (s : Shared) (u : Value), BindsTo s fd ⟨[u], []⟩ [(x, u)])
    (hsp : ∀ G : Hp, Only G → SqL K G a (ks.map V.int) → sp [.ref a] G (fun v _ => v = .bl true) fun _ _ _ => False) :
    codeAny (model P w) callerA (.call (.ref fa) ⟨[.ref a], []⟩) (fun r z2 => r = .ok (.ret (.bool true)) ∧ OldK z.heap z2.heap ∧ z2.os = z.os ∧ AllBare z2.gens) z := by
  have rv := vals_ints hi
  have hlen := hi.length
  cases hk : K.lookup a with
  | some o =>
    have e := inK a o hk
    rw [obj] at e
    cases e
    have nn : ∀ b : Addr, (fun _ => none : Hp) b = none := fun _ => rfl
    exact end_core (ks := ks) inK hns hb hbb nolim hgn obj hr F bind (fun _ => none) (fun _ => .inl rfl) (hsp _ (fun _ => .inl rfl) (.inr ⟨_, us.toArray, _, hk, rfl, rfl, rfl, by rw [List.size_toArray, hlen]; exact hl, by simpa using rv⟩))
      (fun b u t => by have t' : (none : Option HO) = some u := t; cases t') (fun b t => absurd rfl t) (fun t => absurd rfl t)
  | none =>
    have only : Only (fun b => if b = a then some (.frz { cls := .type "list", data := .seq us.toArray } (.lst (ks.map V.int))) else none) := by
      intro b
      by_cases eb : b = a
      · exact .inr ⟨_, _, if_pos eb⟩
      · exact .inl (if_neg eb)
    refine end_core (ks := ks) inK hns hb hbb nolim hgn obj hr F bind _ only (hsp _ only (.inl (.inr ⟨_, if_pos rfl⟩))) (fun b u t => ?_) (fun b t => ?_) fun _ => hk
    · by_cases eb : b = a
      · have t' := (if_pos eb).symm.trans t
        cases t'
        subst eb
        exact ⟨obj, by rw [List.length_map]; exact hl, us, _, rv, obj⟩
      · have t' := (if_neg eb).symm.trans t
        cases t'
    · by_cases eb : b = a
      · exact eb
      · exact absurd (if_neg eb) t
theorem walk_g {l : PySem.W.OpenLaw} {n k : Nat} {q : Program} {loose : List Str} {XP : (Str → Option Value) → Heap → Prop} {YP : World → Heap → Prop} {d : DefRec} {K : Params → PySem.W.Frag} {sp : World → Sp} {x : Str}
    (hn : l.most = some n) (hn2 : n ≤ sizeLine) (hdf : d.params.defaults = []) (hr : Room k callerA) (hY : ∀ (w : World) (h : Heap), YP w h → (K w.params).In h)
    (F : ∀ (w : World) (mg : Str → Option Value) (fa : Addr) (h : Heap), (K w.params).In h → h.Ns mainGlobals mg → mg d.name = some (.ref fa) →
      ∃ fd : FuncData, (∀ (s : Shared) (u : Value), BindsTo s fd ⟨[u], []⟩ [(x, u)]) ∧ ∀ base : Heap, (K w.params).In base → base.Ns mainGlobals mg → FnG l.prog w (K w.params) mg base CX0 k fa fd [x] (sp w))
    (hsp : ∀ (w : World) (G : Hp) (a : Addr) (ks : List Int), ks.length ≤ n → Only G → SqL (K w.params) G a (ks.map V.int) → sp w [.ref a] G (fun v _ => v = .bl true) fun _ _ _ => False) :
    PySem.W.WalkO q loose XP YP l.row.toRowW d [] (fun f vs => PySem.call f vs) := by
  refine Att.attach_call hn hdf fun w z0 z1 mg mb fa o pm cd doc a us ks Gr Y ho hd hcd hmg hobj hints hlen hg => ?_
  have inK := hY w _ Y
  obtain ⟨fd, hb, hF⟩ := F w mg fa _ inK Gr.T.g hmg
  exact end_call inK Gr.T.g Gr.T.b Gr.T.builtins Gr.T.nolimit hg hobj hints (Nat.le_trans hlen hn2) hr hF hb fun G hO hS => hsp w G a ks hlen hO hS
end Wd

set_option Elab.async false
set_option linter.all false
set_option maxRecDepth 100000
set_option maxHeartbeats 4000000
/-! repr of data at any depth: none, bools, ints, texts, lists, tuples, dicts with ints and texts as keys. -/
namespace Wd
open PySem PySem.Spec PyProof.Rows L2
def keyD : Key → PyData
  | .inl i => .int i
  | .inr x => .str x
mutual
/-- v is the data d; each list, tuple, dict in it stands at an address of which N is true -/
inductive Dq (N : Addr → Prop) (K : PySem.W.Frag) (H : Hp) : V → PyData → Prop
  | non : Dq N K H .non .none
  | bl (b : Bool) : Dq N K H (.bl b) (.bool b)
  | int (i : Int) : Dq N K H (.int i) (.int i)
  | str (x : Str) : Dq N K H (.str x) (.str x)
  | lst {a : Addr} {xs : List V} {ds : List PyData} : N a → SqL K H a xs → DqAll N K H xs ds → Dq N K H (.ref a) (.list ds)
  | tup {a : Addr} {xs : List V} {ds : List PyData} : N a → SqT K H a xs → DqAll N K H xs ds → Dq N K H (.ref a) (.tuple ds)
  | dct {a : Addr} {kvs : List (Key × V)} {ds : List (PyData × PyData)} : N a → Rd H a (.dK kvs) → DqKv N K H kvs ds → Dq N K H (.ref a) (.dict ds)
inductive DqAll (N : Addr → Prop) (K : PySem.W.Frag) (H : Hp) : List V → List PyData → Prop
  | nil : DqAll N K H [] []
  | cons {v : V} {vs : List V} {d : PyData} {ds : List PyData} : Dq N K H v d → DqAll N K H vs ds → DqAll N K H (v :: vs) (d :: ds)
inductive DqKv (N : Addr → Prop) (K : PySem.W.Frag) (H : Hp) : List (Key × V) → List (PyData × PyData) → Prop
  | nil : DqKv N K H [] []
  | cons {k : Key} {v : V} {kvs : List (Key × V)} {d : PyData} {ds : List (PyData × PyData)} : Dq N K H v d → DqKv N K H kvs ds → DqKv N K H ((k, v) :: kvs) ((keyD k, d) :: ds)
end
def anyA : Addr → Prop := fun _ => True
section
variable {N N' : Addr → Prop} {K : PySem.W.Frag} {H H' : Hp}
theorem sqL_at {a : Addr} {xs : List V} (s : ∀ o, H a = some o → H' a = some o) (h : SqL K H a xs) : SqL K H' a xs := by
  rcases h with (h | ⟨o, h⟩) | h
  · exact .inl (.inl (s _ h))
  · exact .inl (.inr ⟨o, s _ h⟩)
  · exact .inr h
theorem sqT_at {a : Addr} {xs : List V} (s : ∀ o, H a = some o → H' a = some o) (h : SqT K H a xs) : SqT K H' a xs := by
  rcases h with (h | ⟨o, h⟩) | h
  · exact .inl (.inl (s _ h))
  · exact .inl (.inr ⟨o, s _ h⟩)
  · exact .inr h
theorem rd_at {a : Addr} {u : HO} (s : ∀ o, H a = some o → H' a = some o) (h : Rd H a u) : Rd H' a u := by
  rcases h with h | ⟨o, h⟩
  · exact .inl (s _ h)
  · exact .inr ⟨o, s _ h⟩
mutual
theorem Dq.move (n : ∀ a, N a → N' a) (s : ∀ a o, N a → H a = some o → H' a = some o) : ∀ (d : PyData) (v : V), Dq N K H v d → Dq N' K H' v d
  | .none, _, h => by cases h; exact .non
  | .bool b, _, h => by cases h; exact .bl b
  | .int i, _, h => by cases h; exact .int i
  | .str x, _, h => by cases h; exact .str x
  | .list ds, _, h => by
    cases h with
    | lst na hq ha => exact .lst (n _ na) (sqL_at (fun o => s _ o na) hq) (DqAll.move n s ds _ ha)
  | .tuple ds, _, h => by
    cases h with
    | tup na hq ha => exact .tup (n _ na) (sqT_at (fun o => s _ o na) hq) (DqAll.move n s ds _ ha)
  | .dict ds, _, h => by
    cases h with
    | dct na hq ha => exact .dct (n _ na) (rd_at (fun o => s _ o na) hq) (DqKv.move n s ds _ ha)
theorem DqAll.move (n : ∀ a, N a → N' a) (s : ∀ a o, N a → H a = some o → H' a = some o) : ∀ (ds : List PyData) (vs : List V), DqAll N K H vs ds → DqAll N' K H' vs ds
  | [], _, h => by cases h; exact .nil
  | d :: ds, _, h => by
    cases h with
    | cons h1 h2 => exact .cons (Dq.move n s d _ h1) (DqAll.move n s ds _ h2)
theorem DqKv.move (n : ∀ a, N a → N' a) (s : ∀ a o, N a → H a = some o → H' a = some o) : ∀ (ds : List (PyData × PyData)) (vs : List (Key × V)), DqKv N K H vs ds → DqKv N' K H' vs ds
  | [], _, h => by cases h; exact .nil
  | (k, d) :: ds, _, h => by
    cases h with
    | cons h1 h2 => exact .cons (Dq.move n s d _ h1) (DqKv.move n s ds _ h2)
end
theorem Dq.mono {v : V} {d : PyData} (s : Same H H') (h : Dq N K H v d) : Dq N K H' v d := Dq.move (fun _ n => n) (fun a o _ => s a o) d v h
theorem DqAll.mono {v : List V} {d : List PyData} (s : Same H H') (h : DqAll N K H v d) : DqAll N K H' v d := DqAll.move (fun _ n => n) (fun a o _ => s a o) d v h
theorem DqKv.mono {v : List (Key × V)} {d : List (PyData × PyData)} (s : Same H H') (h : DqKv N K H v d) : DqKv N K H' v d := DqKv.move (fun _ n => n) (fun a o _ => s a o) d v h
theorem Dq.any {v : V} {d : PyData} (h : Dq N K H v d) : Dq anyA K H v d := Dq.move (fun _ _ => trivial) (fun _ _ _ e => e) d v h
theorem DqAll.any {v : List V} {d : List PyData} (h : DqAll N K H v d) : DqAll anyA K H v d := DqAll.move (fun _ _ => trivial) (fun _ _ _ e => e) d v h
theorem DqAll.snoc : ∀ {vs : List V} {ds : List PyData} {v : V} {d : PyData}, DqAll N K H vs ds → Dq N K H v d → DqAll N K H (vs ++ [v]) (ds ++ [d])
  | _, _, _, _, .nil, x => .cons x .nil
  | _, _, _, _, .cons y r, x => .cons y (r.snoc x)
theorem DqAll.app : ∀ {vs vs' : List V} {ds ds' : List PyData}, DqAll N K H vs ds → DqAll N K H vs' ds' → DqAll N K H (vs ++ vs') (ds ++ ds')
  | _, _, _, _, .nil, x => x
  | _, _, _, _, .cons y r, x => .cons y (r.app x)
theorem DqAll.length : ∀ {vs : List V} {ds : List PyData}, DqAll N K H vs ds → vs.length = ds.length
  | _, _, .nil => rfl
  | _, _, .cons y r => by rw [List.length_cons, List.length_cons, r.length]
theorem DqAll.bools : ∀ bs : List Bool, DqAll N K H (bs.map V.bl) (bs.map PyData.bool)
  | [] => .nil
  | b :: bs => .cons (.bl b) (DqAll.bools bs)
theorem DqAll.strs : ∀ bs : List Str, DqAll N K H (bs.map V.str) (bs.map PyData.str)
  | [] => .nil
  | b :: bs => .cons (.str b) (DqAll.strs bs)
mutual
/-- without dicts it is the layer's own -/
theorem Dq.dp : ∀ (d : PyData) (v : V), d.hasDict = false → Dq N K H v d → Dp K H v d
  | .none, _, _, h => by cases h; exact .non
  | .bool b, _, _, h => by cases h; exact .bl b
  | .int i, _, _, h => by cases h; exact .int i
  | .str x, _, _, h => by cases h; exact .str x
  | .list ds, _, e, h => by
    cases h with
    | lst _ hq ha => exact .lst hq (DqAll.dp ds _ (by simpa [PyData.hasDict] using e) ha)
  | .tuple ds, _, e, h => by
    cases h with
    | tup _ hq ha => exact .tup hq (DqAll.dp ds _ (by simpa [PyData.hasDict] using e) ha)
  | .dict ds, _, e, h => by
    rw [PyData.hasDict] at e
    cases e
theorem DqAll.dp : ∀ (ds : List PyData) (vs : List V), PyData.hasDictAll ds = false → DqAll N K H vs ds → DpAll K H vs ds
  | [], _, _, h => by cases h; exact .nil
  | d :: ds, _, e, h => by
    cases h with
    | cons h1 h2 =>
      have e' : d.hasDict = false ∧ PyData.hasDictAll ds = false := by simpa [PyData.hasDictAll] using e
      exact .cons (Dq.dp d _ e'.1 h1) (DqAll.dp ds _ e'.2 h2)
end
end
section
variable {X : Cx} {pins : List (Addr × Obj)} {σ : L2.St} {H : Hp} {s : Shared} {N : Addr → Prop}
/-- what an object shows: where it is read, its text -/
structure Rk (P : Program) (w : World) (h : Heap) (u : Value) (d : PyData) : Prop where
  ex : ∃ as bs, Reads h u d as ∧ ReadAtMost h d.depth bs ∧ ReprK P w bs h d.depth u d.shown
structure Rks (P : Program) (w : World) (h : Heap) (us : List Value) (ds : List PyData) : Prop where
  ex : ∃ as bs, ReadsAll h us ds as ∧ ReadAtMost h (PyData.depthAll ds) bs ∧ ReprAllK P w bs h (PyData.depthAll ds) us (PyData.shownAll ds)
theorem Rks.nil {P : Program} {w : World} {h : Heap} : Rks P w h [] [] := ⟨[], [], .nil, (fun _ m => nomatch m), by simp only [PyData.shownAll]; exact .nil⟩
theorem Rks.cons {P : Program} {w : World} {h : Heap} {u : Value} {us : List Value} {d : PyData} {ds : List PyData} (a : Rk P w h u d) (b : Rks P w h us ds) : Rks P w h (u :: us) (d :: ds) := by
  obtain ⟨as, bs, r1, m1, k1⟩ := a.ex
  obtain ⟨cs, es, r2, m2, k2⟩ := b.ex
  refine ⟨as ++ cs, bs ++ es, .cons r1 r2, fun c hm => ?_, ?_⟩
  · simp only [PyData.depthAll]
    rcases List.mem_append.mp hm with hm | hm
    · obtain ⟨d', as', r', hd⟩ := m1 c hm
      exact ⟨d', as', r', Nat.le_trans hd (Nat.le_max_left _ _)⟩
    · obtain ⟨d', as', r', hd⟩ := m2 c hm
      exact ⟨d', as', r', Nat.le_trans hd (Nat.le_max_right _ _)⟩
  · simp only [PyData.depthAll, PyData.shownAll]
    exact .cons ((k1.more fun c hc => List.mem_append_left _ hc).level_le (Nat.le_max_left _ _)) (k2.more_le (fun c hc => List.mem_append_right _ hc) (Nat.le_max_right _ _))
theorem rk_scal {P : Program} {w : World} {h : Heap} {u : Value} {d : PyData} (r : Reads h u d []) (k : ReprIs P w u d.shown) : Rk P w h u d := ⟨[], [], r, (fun _ m => nomatch m), .of_is k _ _ _⟩
theorem rk_list {P : Program} {w : World} {h : Heap} {a : Addr} {o : Obj} {us : List Value} {n : Nat} {ds : List PyData} (h1 : h.get? a = some o) (h2 : o.cls = .type "list") (h3 : o.data = .seq us.toArray n) (q : Rks P w h us ds) : Rk P w h (.ref a) (.list ds) := by
  obtain ⟨as, bs, r, hb, hk⟩ := q.ex
  have rr : Reads h (.ref a) (.list ds) (a :: as) := .list h1 h2 h3 r
  have off : a ∉ bs := not_mem_of_deeper rr (by simp only [PyData.depth]; omega) hb
  refine ⟨a :: as, a :: bs, rr, ReadAtMost.cons rr (by simp only [PyData.depth]; omega) hb, ?_⟩
  simp only [PyData.depth, PyData.shown]
  cases us with
  | nil =>
    cases r
    simp only [PyData.shownAll, listText_nil]
    exact ReprK.listEmpty h1 h2 h3
  | cons x l => exact ReprK.list h1 h2 h3 off (by simpa using hk.length_eq) fun i y e => hk.item i y (by simpa using e)
theorem rk_tuple {P : Program} {w : World} {h : Heap} {a : Addr} {o : Obj} {us : List Value} {n : Nat} {ds : List PyData} (h1 : h.get? a = some o) (h2 : o.cls = .type "tuple") (h3 : o.data = .seq us.toArray n) (q : Rks P w h us ds) : Rk P w h (.ref a) (.tuple ds) := by
  obtain ⟨as, bs, r, hb, hk⟩ := q.ex
  have rr : Reads h (.ref a) (.tuple ds) as := .tuple h1 h2 h3 r
  have off : a ∉ bs := not_mem_of_deeper rr (by simp only [PyData.depth]; omega) hb
  refine ⟨as, a :: bs, rr, ReadAtMost.cons rr (by simp only [PyData.depth]; omega) hb, ?_⟩
  simp only [PyData.depth, PyData.shown]
  exact ReprK.tuple h1 h2 h3 off hk
theorem rk_dict {P : Program} {w : World} {h : Heap} {a : Addr} {o : Obj} {es : Array DictEntry} {n : Nat} {ds : List (PyData × PyData)} (h1 : h.get? a = some o) (h2 : o.cls = .type "dict") (h3 : o.data = .dict es n) (hsys : (a == sysModules) = false)
    (q1 : Rks P w h (es.toList.map (·.key)) (ds.map (·.1))) (q2 : Rks P w h (es.toList.map (·.val)) (ds.map (·.2))) : Rk P w h (.ref a) (.dict ds) := by
  obtain ⟨as, bs, r1, hb1, hk1⟩ := q1.ex
  obtain ⟨cs, es', r2, hb2, hk2⟩ := q2.ex
  have rr : Reads h (.ref a) (.dict ds) (a :: as ++ cs) := .dict h1 h2 h3 r1 r2
  have hb : ReadAtMost h (PyData.depthKv ds) (bs ++ es') := (hb1.mono (PyData.depthAll_keys_le ds)).append (hb2.mono (PyData.depthAll_vals_le ds))
  have off : a ∉ bs ++ es' := not_mem_of_deeper rr (by simp only [PyData.depth]; omega) hb
  refine ⟨_, a :: (bs ++ es'), rr, ReadAtMost.cons rr (by simp only [PyData.depth]; omega) hb, ?_⟩
  simp only [PyData.depth, PyData.shown, PyData.shownKv_eq]
  refine ReprK.dict h1 h2 h3 hsys off (ReprEntriesK.of_two es.toList _ _ (hk1.more_le (fun b hb => List.mem_append_left _ hb) ?_) (hk2.more_le (fun b hb => List.mem_append_right _ hb) ?_))
  · exact PyData.depthAll_keys_le ds
  · exact PyData.depthAll_vals_le ds
theorem rk_key {P : Program} {w : World} {h : Heap} {k : Key} {v : Value} (e : (mixKind P w).is k v = true) (hs : (keyD k).showable = true) (hz : (keyD k).shown.length ≤ sizeLine) : Rk P w h v (keyD k) := by
  rcases keyIs_shape (k := k) (v := v) e with ⟨i, t, rfl, rfl⟩ | ⟨x, t, rfl, rfl⟩
  · exact rk_scal (.int i t) (by simp only [keyD, PyData.shown]; exact ReprIs.int t (by simpa [keyD, PyData.showable] using hs))
  · exact rk_scal (.str x t) (by simp only [keyD, PyData.shown]; exact ReprIs.str x t (by simpa only [keyD, PyData.shown] using hz))
mutual
theorem Dq.rk (I : Inv X pins σ H s) : ∀ (d : PyData) (v : V) (u : Value), Dq N X.K H v d → RelV v u → d.showable = true → d.shown.length ≤ sizeLine → Rk X.prog X.w s.heap u d
  | .none, _, _, h, r, _, _ => by
    cases h
    cases r
    exact rk_scal .none (by simp only [PyData.shown]; exact ReprIs.none)
  | .bool b, _, _, h, r, _, _ => by
    cases h
    cases r
    exact rk_scal (.bool b) (by simp only [PyData.shown]; exact ReprIs.bool b)
  | .int i, _, _, h, r, hs, _ => by
    cases h
    obtain ⟨t, rfl⟩ := r
    exact rk_scal (.int i t) (by simp only [PyData.shown]; exact ReprIs.int t (by simpa [PyData.showable] using hs))
  | .str x, _, _, h, r, _, hz => by
    cases h
    obtain ⟨t, rfl⟩ := r
    exact rk_scal (.str x t) (by simp only [PyData.shown]; exact ReprIs.str x t (by simpa only [PyData.shown] using hz))
  | .list ds, _, _, h, r, hs, hz => by
    cases h with
    | lst _ hq ha =>
      cases r
      have hz' : (listText (PyData.shownAll ds)).length ≤ sizeLine := by simpa only [PyData.shown] using hz
      obtain ⟨its, rv, ⟨o, n, ho, hc, _, hd⟩, _⟩ := I.list hq
      exact rk_list ho hc hd (Dq.rks I ds _ its ha rv (by simpa [PyData.showable] using hs) fun t ht => Nat.le_trans (listText_mem_le ht) hz')
  | .tuple ds, _, _, h, r, hs, hz => by
    cases h with
    | tup _ hq ha =>
      cases r
      have hz' : (tupleText (PyData.shownAll ds)).length ≤ sizeLine := by simpa only [PyData.shown] using hz
      obtain ⟨its, rv, ⟨o, ho, hc, n, hd⟩, _⟩ := I.tuple hq
      exact rk_tuple ho hc hd (Dq.rks I ds _ its ha rv (by simpa [PyData.showable] using hs) fun t ht => Nat.le_trans (tupleText_mem_le ht) hz')
  | .dict ds, _, _, h, r, hs, hz => by
    cases h with
    | dct _ hq ha =>
      cases r
      have hz' : (dictText (PyData.shownKv ds)).length ≤ sizeLine := by simpa only [PyData.shown] using hz
      obtain ⟨_, hsys, vs, rv, o, es, ep, ho, hx, hd, _, hp, _⟩ := dk_rd I.hok hq
      obtain ⟨q1, q2⟩ := Dq.rkv I ds _ vs es.toList ha rv hp (by simpa [PyData.showable] using hs) fun t ht => Nat.le_trans (dictText_mem_le ht) hz'
      exact rk_dict ho hx.1 hd hsys q1 q2
theorem Dq.rks (I : Inv X pins σ H s) : ∀ (ds : List PyData) (vs : List V) (us : List Value), DqAll N X.K H vs ds → Vals vs us → PyData.showableAll ds = true → (∀ t ∈ PyData.shownAll ds, t.length ≤ sizeLine) → Rks X.prog X.w s.heap us ds
  | [], _, _, h, r, _, _ => by
    cases h
    cases r
    exact Rks.nil
  | d :: ds, _, _, h, r, hs, hz => by
    cases h with
    | cons h1 h2 =>
      cases r with
      | cons r1 r2 =>
        have hs' : d.showable = true ∧ PyData.showableAll ds = true := by simpa [PyData.showableAll] using hs
        exact Rks.cons (Dq.rk I d _ _ h1 r1 hs'.1 (hz _ (by simp only [PyData.shownAll]; exact List.mem_cons_self ..))) (Dq.rks I ds _ _ h2 r2 hs'.2 fun t ht => hz t (by simp only [PyData.shownAll]; exact List.mem_cons_of_mem _ ht))
theorem Dq.rkv (I : Inv X pins σ H s) : ∀ (ds : List (PyData × PyData)) (kvs : List (Key × V)) (vs : List (Key × Value)) (es : List DictEntry), DqKv N X.K H kvs ds → KV kvs vs → Pairs (mixKind X.prog X.w) es vs → PyData.showableKv ds = true →
    (∀ t ∈ PyData.shownKv ds, t.length ≤ sizeLine) → Rks X.prog X.w s.heap (es.map (·.key)) (ds.map (·.1)) ∧ Rks X.prog X.w s.heap (es.map (·.val)) (ds.map (·.2))
  | [], _, _, _, h, r, p, _, _ => by
    cases h
    cases r
    cases p
    exact ⟨Rks.nil, Rks.nil⟩
  | (kd, d) :: ds, _, _, _, h, r, p, hs, hz => by
    cases h with
    | cons h1 h2 =>
      cases r with
      | cons r1 r2 =>
        cases p with
        | cons p1 p2 p3 =>
          rename_i k v kvs kv0 vs0 e0 es0
          obtain ⟨ek, rv⟩ := r1
          have hs' : ((keyD k).showable = true ∧ d.showable = true) ∧ PyData.showableKv ds = true := by simpa [PyData.showableKv] using hs
          have h0 := hz _ (by simp only [PyData.shownKv]; exact List.mem_cons_self ..)
          rw [strLen_append, strLen_append] at h0
          obtain ⟨q1, q2⟩ := Dq.rkv I ds _ _ _ h2 r2 p3 hs'.2 fun t ht => hz t (by simp only [PyData.shownKv]; exact List.mem_cons_of_mem _ ht)
          have ek' : k = kv0.1 := ek
          refine ⟨Rks.cons (rk_key (by rw [ek']; exact p1) hs'.1.1 (by omega)) q1, Rks.cons ?_ q2⟩
          show Rk _ _ _ e0.val d
          rw [p2]
          exact Dq.rk I d _ _ h1 rv hs'.1.2 (by omega)
end
end
section
variable {X : Cx}
/-- repr(x) -/
def rRepr (K : PySem.W.Frag) : List V → Hp → VK → Prop := fun xs H Q => ∃ v d, xs = [v] ∧ Dq anyA K H v d ∧ d.showable = true ∧ d.shown.length ≤ sizeLine ∧ d.depth ≤ 60 ∧ Q (.str d.shown) H
theorem call_reprG (hgd : X.A.guards = some []) (hu : X.A.units + 64 < cLine) : CallR X (.builtin "repr") (rRepr X.K) := by
  intro pins s σ H xs us Q I r h
  obtain ⟨v, d, rfl, hd, hs, hz, hdep, q⟩ := h
  obtain ⟨u, rfl, rv⟩ := vals1 r
  have back : ∀ (h' : Heap) (t : Tok) (tk : Nat), (∀ b o, s.heap.get? b = some o → h'.get? b = some o) → EP X pins σ Q (.str d.shown t) { s with heap := h', toks := tk } :=
    fun h' t tk k => ⟨.str d.shown, H, I.kept k, ⟨t, rfl⟩, q⟩
  cases hd with
  | non =>
    cases rv
    simp only [PyData.shown] at back
    exact call_repr_gives (typeIs_none s) F.slot_NoneType_repr F.entry_NoneType_repr (F.args_NoneType_repr_1 _) gives_none_repr (back s.heap _ _ fun _ _ e => e)
  | bl b =>
    cases rv
    simp only [PyData.shown] at back
    exact call_repr_gives (PySem.typeIs_bool s b) F.slot_bool_repr F.entry_bool_repr (F.args_bool_repr_1 _) (gives_bool_repr b) (back s.heap _ _ fun _ _ e => e)
  | int i =>
    obtain ⟨t, rfl⟩ := rv
    have hi : i.natAbs.log2 < 1920 := by simpa [PyData.showable] using hs
    simp only [PyData.shown] at back
    exact PySem.P.repr_of_int hi (back s.heap _ _ fun _ _ e => e)
  | str x =>
    obtain ⟨t, rfl⟩ := rv
    simp only [PyData.shown] at back hz
    exact call_repr_gives (typeIs_str s x t) F.slot_str_repr F.entry_str_repr (F.args_str_repr_1 _) (gives_str_repr x t) (back s.heap _ _ fun _ _ e => e) (hx := hz)
  | @lst a ys ds _ hq ha =>
    cases rv
    have hz' : (listText (PyData.shownAll ds)).length ≤ sizeLine := by simpa only [PyData.shown] using hz
    obtain ⟨its, rv, ⟨o, n, ho, hc, _, hdd⟩, _⟩ := I.list hq
    obtain ⟨as, bs, rr, hb, hk⟩ := (Dq.rks I ds _ its ha rv (by simpa [PyData.showable] using hs) fun t ht => Nat.le_trans (listText_mem_le ht) hz').ex
    have r1 : Reads s.heap (.ref a) (.list ds) (a :: as) := .list ho hc hdd rr
    have off : a ∉ bs := not_mem_of_deeper r1 (by simp only [PyData.depth]; omega) hb
    simp only [PyData.shown] at back
    simp only [PyData.depth] at hdep
    refine call_repr_slot (by omega) ⟨o, ho, hc⟩ F.slot_list_repr.toG ?_
    cases its with
    | nil =>
      cases rr
      simp only [PyData.shownAll, listText_nil] at back
      exact call_list_repr_empty ⟨o, ho, hc⟩ ho hdd ⟨_, _, rfl, back s.heap _ _ fun _ _ e => e⟩
    | cons y l =>
      exact call_list_reprK ho hc hdd off (by simpa using hk.length_eq) (fun i y e => hk.item i y (by simpa using e)) hgd (fun b _ => Clear.nil b) (by show X.A.units + 1 + _ < _; omega) (fun _ _ e => e) (fun h' t tk k => ⟨_, _, rfl, back h' t tk k⟩) hz'
  | @tup a ys ds _ hq ha =>
    cases rv
    have hz' : (tupleText (PyData.shownAll ds)).length ≤ sizeLine := by simpa only [PyData.shown] using hz
    obtain ⟨its, rv, ⟨o, ho, hc, n, hdd⟩, _⟩ := I.tuple hq
    obtain ⟨as, bs, rr, hb, hk⟩ := (Dq.rks I ds _ its ha rv (by simpa [PyData.showable] using hs) fun t ht => Nat.le_trans (tupleText_mem_le ht) hz').ex
    have r1 : Reads s.heap (.ref a) (.tuple ds) as := .tuple ho hc hdd rr
    have off : a ∉ bs := not_mem_of_deeper r1 (by simp only [PyData.depth]; omega) hb
    simp only [PyData.shown] at back
    simp only [PyData.depth] at hdep
    refine call_repr_slot (by omega) ⟨o, ho, hc⟩ F.slot_tuple_repr ?_
    exact call_tuple_reprK ho hc hdd off hk hgd (fun b _ => Clear.nil b) (by show X.A.units + 1 + _ < _; omega) (fun _ _ e => e) (fun h' t tk k => ⟨_, _, rfl, back h' t tk k⟩) hz'
  | @dct a kvs ds _ hq ha =>
    cases rv
    have hz' : (dictText (PyData.shownKv ds)).length ≤ sizeLine := by simpa only [PyData.shown] using hz
    obtain ⟨_, hsys, vs, rv, o, es, ep, ho, hx, hdd, _, hp, _⟩ := dk_rd I.hok hq
    obtain ⟨q1, q2⟩ := Dq.rkv I ds _ vs es.toList ha rv hp (by simpa [PyData.showable] using hs) fun t ht => Nat.le_trans (dictText_mem_le ht) hz'
    obtain ⟨as, bs, rr1, hb1, hk1⟩ := q1.ex
    obtain ⟨cs, es', rr2, hb2, hk2⟩ := q2.ex
    have r1 : Reads s.heap (.ref a) (.dict ds) (a :: as ++ cs) := .dict ho hx.1 hdd rr1 rr2
    have hb : ReadAtMost s.heap (PyData.depthKv ds) (bs ++ es') := (hb1.mono (PyData.depthAll_keys_le ds)).append (hb2.mono (PyData.depthAll_vals_le ds))
    have off : a ∉ bs ++ es' := not_mem_of_deeper r1 (by simp only [PyData.depth]; omega) hb
    simp only [PyData.shown, PyData.shownKv_eq] at back
    simp only [PyData.depth] at hdep
    refine call_repr_slot (by omega) ⟨o, ho, hx.1⟩ F.slot_dict_repr ?_
    exact call_dict_reprK ho hx.1 hdd hsys off (ReprEntriesK.of_two es.toList _ _ (hk1.more_le (fun b hb => List.mem_append_left _ hb) (PyData.depthAll_keys_le ds)) (hk2.more_le (fun b hb => List.mem_append_right _ hb) (PyData.depthAll_vals_le ds)))
      hgd (fun b _ => Clear.nil b) (by show X.A.units + 1 + _ < _; omega) (fun _ _ e => e) (fun h' t tk k => ⟨_, _, rfl, back h' t tk k⟩) (by rw [← PyData.shownKv_eq]; exact hz')
end
end Wd

set_option Elab.async false
set_option linter.all false
set_option maxRecDepth 100000
set_option maxHeartbeats 4000000
namespace Wd
open PySem PySem.Spec PyProof.Rows L2
def topS (i : Nat) : Stmt := PySem.Challenge.pw_weighdoors_k23_goals_or_not.main.body.getD i (.Pass ⟨0, 0, 0, 0⟩)
structure CA where
  NoGoal : XA
  NoName : XA
/-! ### what the top has written -/
section
variable (P : Program) (w : World) (K : PySem.W.Frag) (mg : Str → Option Value) (base : Heap)
structure Txt (c : CA) : Prop where
  b_len : mg "len" = none
  b_abs : mg "abs" = none
  b_list : mg "list" = none
  b_range : mg "range" = none
  b_min : mg "min" = none
  b_max : mg "max" = none
  b_sum : mg "sum" = none
  b_sorted : mg "sorted" = none
  b_tuple : mg "tuple" = none
  b_int : mg "int" = none
  b_str : mg "str" = none
  b_isinstance : mg "isinstance" = none
  b_repr : mg "repr" = none
  b_dict : mg "dict" = none
  b_zip : mg "zip" = none
  b_KeyError : mg "KeyError" = none
  x_NoGoal : XOne P w K mg base "NoGoal" c.NoGoal "at" "ValueError" "ValueError.__new__" "ValueError.__init__" PySem.WX.tlV PySem.WX.tlV
  x_NoName : XOne P w K mg base "NoName" c.NoName "asked" "LookupError" "LookupError.__new__" "LookupError.__init__" PySem.WX.tlL PySem.WX.tlK
end
abbrev s__law_pen : Stmt := topS 20
theorem sc__law_pen : FnScope ["script"] ["script"] (C8.fnScope s__law_pen) := ⟨rfl, rfl, rfl, by decide +kernel, rfl, by decide +kernel, by decide +kernel⟩
abbrev s__law_draw : Stmt := topS 21
theorem sc__law_draw : FnScope ["pen", "many", "digit", "turn", "cell", "primes", "prime", "drawn"] ["pen", "many"] (C8.fnScope s__law_draw) := ⟨rfl, rfl, rfl, by decide +kernel, rfl, by decide +kernel, by decide +kernel⟩
abbrev s__law_pick : Stmt := topS 22
theorem sc__law_pick : FnScope ["pen", "some"] ["pen", "some"] (C8.fnScope s__law_pick) := ⟨rfl, rfl, rfl, by decide +kernel, rfl, by decide +kernel, by decide +kernel⟩
/-! ### the pen: n is at least the number of turns so far -/
def penK (c : Addr) (t r : Int) : HO := .dK [(.inr "cells", .ref c), (.inr "turn", .int t), (.inr "rest", .int r)]
def Pen (K : PySem.W.Frag) (H : Hp) (p : Addr) (q : Addr × List Int) (n : Nat) : Prop := ∃ t r : Int, H p = some (penK q.1 t r) ∧ SqL K H q.1 (q.2.map V.int) ∧ q.1 ≠ p ∧ q.2.length ≤ 63 ∧ 0 ≤ t ∧ t ≤ n ∧ 0 ≤ r
theorem pen_cells {H : Hp} {p c : Addr} {t r : Int} (h : H p = some (penK c t r)) : DGet H p (.str "cells") (some (.ref c)) := DGet.k (k := .inr "cells") h
theorem pen_turn {H : Hp} {p c : Addr} {t r : Int} (h : H p = some (penK c t r)) : DGet H p (.str "turn") (some (.int t)) := DGet.k (k := .inr "turn") h
theorem pen_rest {H : Hp} {p c : Addr} {t r : Int} (h : H p = some (penK c t r)) : DGet H p (.str "rest") (some (.int r)) := DGet.k (k := .inr "rest") h
theorem pen_putT {H : Hp} {p c : Addr} {t r : Int} (t' : Int) (h : H p = some (penK c t r)) : DPut H p (.str "turn") (.int t') (upd H p (penK c t' r)) := DPut.k (k := .inr "turn") h (by show 3 < sizeLine; decide)
theorem pen_putR {H : Hp} {p c : Addr} {t r : Int} (r' : Int) (h : H p = some (penK c t r)) : DPut H p (.str "rest") (.int r') (upd H p (penK c t r')) := DPut.k (k := .inr "rest") h (by show 3 < sizeLine; decide)
theorem seqL_upd {K : PySem.W.Frag} {H : Hp} {p c : Addr} {o o' : HO} {xs : List V} (ho : H p = some o) (nl : ∀ ys, o ≠ .lst ys) (nf : ∀ u y, o ≠ .frz u y) (h : SqL K H c xs) : SqL K (upd H p o') c xs := by
  rcases h with (h | ⟨u, h⟩) | h
  · exact .inl (.inl (by rw [upd_ne (fun e => by rw [e, ho] at h; exact nl _ (Option.some.inj h))]; exact h))
  · exact .inl (.inr ⟨u, by rw [upd_ne (fun e => by rw [e, ho] at h; exact nf _ _ (Option.some.inj h))]; exact h⟩)
  · exact .inr h
theorem pow60 {m : Int} (h0 : 0 < m) (h : m < 2 ^ 60) (i : Int) : CDivW i m := wide_div h0 (b := 60) (by omega) (by decide) (by decide)
theorem at_in {α : Type} {xs : List α} {i : Int} {j : Nat} {v : α} (e : i = j) (h : xs[j]? = some v) : atI xs i = some v := by subst e; exact atI_nat h
theorem atI_in {xs : List V} {i : Int} {j : Nat} {v : V} (e : i = j) (h : xs[j]? = some v) : atI xs i = some v := by subst e; exact atI_nat h
theorem seq_new {K : PySem.W.Frag} {H : Hp} {l c : Addr} {o : HO} {xs : List V} (n : H l = none) (h : SqL K H c xs) : SqL K (upd H l o) c xs :=
  Same.seq (fun b u e => by rw [upd_ne (ne_of_none e n)]; exact e) h
theorem dp_ints {K : PySem.W.Frag} {H : Hp} : ∀ L : List Int, DpAll K H (L.map V.int) (L.map PyData.int)
  | [] => .nil
  | x :: r => .cons (.int x) (dp_ints r)
theorem lay_ints : ∀ L : List Int, PyData.canLayAll0 (L.map PyData.int) = true
  | [] => by simp [PyData.canLayAll0]
  | x :: r => by simp [PyData.canLayAll0, PyData.canLay0, lay_ints r]
theorem depth_ints : ∀ L : List Int, PyData.depthAll (L.map PyData.int) ≤ 0
  | [] => by simp [PyData.depthAll]
  | x :: r => by
    have h := depth_ints r
    simp only [List.map_cons, PyData.depthAll, PyData.depth]
    omega
theorem shaped_ints (L : List Int) : SeqAt.shaped (.list (L.map PyData.int)) = true := by
  have h := depth_ints L
  show (PyData.canLay0 _ && decide _) = true
  rw [Bool.and_eq_true]
  exact ⟨by simp only [PyData.canLay0]; exact lay_ints L, decide_eq_true (by simp only [PyData.depth]; omega)⟩
theorem eqv_ints_nil (L : List Int) : (!PyData.eqv (.list (L.map PyData.int)) (.list [])) = !L.isEmpty := by
  cases L <;> simp [PyData.eqv, PyData.eqvAll]
theorem cut63 {xs : List V} (h : xs.length ≤ 63) : cutV xs none (some 63) = xs := by
  unfold cutV
  rw [show HT.sIx xs.length xs.length (some 63) = min 63 xs.length from HT.sIx_nat xs.length xs.length 63, HT.sIx_none]
  rw [show min 63 xs.length = xs.length by omega]
  simp
def primesL : List Int := [2147483647, 2147483629, 2147483587, 2147483579, 2147483563]
theorem primes_at (t : Int) : ∃ p : Int, atI (primesL.map V.int) (t % 5) = some (.int p) ∧ 2147483563 ≤ p ∧ p ≤ 2147483647 := by
  have h0 := Int.emod_nonneg t (show (5 : Int) ≠ 0 by decide)
  have h1 := Int.emod_lt_of_pos t (show (0 : Int) < 5 by decide)
  generalize t % 5 = i at h0 h1
  have h : i = 0 ∨ i = 1 ∨ i = 2 ∨ i = 3 ∨ i = 4 := by omega
  rcases h with rfl | rfl | rfl | rfl | rfl <;> exact ⟨_, rfl, by decide, by decide⟩
theorem Pen.same {K : PySem.W.Frag} {H H' : Hp} {p : Addr} {q : Addr × List Int} {n : Nat} (hp : Pen K H p q n) (s : Same H H') : Pen K H' p q n := by
  obtain ⟨t, r, h1, h2, h3⟩ := hp
  exact ⟨t, r, s _ _ h1, s.seq h2, h3⟩
theorem Pen.off {K : PySem.W.Frag} {H : Hp} {p l : Addr} {q : Addr × List Int} {n : Nat} (hp : Pen K H p q n) (n' : H l = none) : l ≠ p := by
  obtain ⟨t, r, h1, h2⟩ := hp
  intro e
  rw [e, h1] at n'
  cases n'
/-- what was free when the pen was made is written -/
theorem Pen.wr {K : PySem.W.Frag} {H G : Hp} {p l : Addr} {q : Addr × List Int} {m n : Nat} {u : HO} (hg : Pen K G p q n) (hp : Pen K H p q m) (nl : H l = none) : Pen K (upd G l u) p q n := by
  have ne := hp.off nl
  obtain ⟨t, r, h1, h2, h3⟩ := hg
  obtain ⟨t', r', g1, g2, g3⟩ := hp
  refine ⟨t, r, by rw [upd_ne ne.symm]; exact h1, ?_, h3⟩
  rcases g2 with (g2 | ⟨z, g2⟩) | g2
  · have nc : q.1 ≠ l := fun e => by rw [e, nl] at g2; cases g2
    rcases h2 with (h2 | ⟨z, h2⟩) | h2
    · exact .inl (.inl (by rw [upd_ne nc]; exact h2))
    · exact .inl (.inr ⟨z, by rw [upd_ne nc]; exact h2⟩)
    · exact .inr h2
  · have nc : q.1 ≠ l := fun e => by rw [e, nl] at g2; cases g2
    rcases h2 with (h2 | ⟨z, h2⟩) | h2
    · exact .inl (.inl (by rw [upd_ne nc]; exact h2))
    · exact .inl (.inr ⟨z, by rw [upd_ne nc]; exact h2⟩)
    · exact .inr h2
  · exact .inr g2
section
variable {P : Program} {w : World} {K : PySem.W.Frag} {mg : Str → Option Value} {base : Heap}
def spDraw (K : PySem.W.Frag) : Sp := fun vs H Q _ => ∃ (p : Addr) (qc : Addr × List Int) (m : Int) (n : Nat), vs = [.ref p, .int m] ∧ Pen K H p qc n ∧ n < 1000000 ∧ 0 < m ∧ m < 2 ^ 60 ∧
  ∀ (d : Int) (H' : Hp), 0 ≤ d → d < m → Kp p H H' → Pen K H' p qc (n + 1) → Q (.int d) H'
theorem c_draw {c : CA} (T : Txt P w K mg base c) {f : Addr} {fd : FuncData} (F : C8.Def K mg "_law_draw" s__law_draw f fd) (b : Binds K fd ["pen", "many"] []) : C8.Cal P w K mg base 1 "_law_draw" (spDraw K) [] := by
  refine C8.cal0 F b .nil sc__law_draw (fun vs H Q E h => ?_) (fun cdv A outer s H vs Q E hr h => ?_)
  · obtain ⟨p, qc, m, n, rfl, _⟩ := h
    rfl
  · obtain ⟨p, ⟨c, L⟩, m, n, rfl, hp, hn, hm, hm2, q⟩ := h
    have hu := hu_of hr
    have hu6 := hu64 hr
    refine ⟨_, (pss_cons (ps_if (pt_cmpR (op_gt) (pe_dget hu (pv 0) pe_str (fun _ _ => rfl)) pe_int (nomark _)) (pss_cons (ps_set (i := 2) sc__law_draw.nd rfl (.inl rfl) (pe_op (op_mod) (pe_dget hu (pv 0) pe_str (fun _ _ => rfl)) (pv 1)))
  (pss_cons (ps_dput hu (pv 0) pe_str (pe_op (op_fdivW) (pe_dget hu (pv 0) pe_str (fun _ _ => rfl)) (pv 1)) rfl)
  (pss_one (ps_ret (pv 2))))) pss_nil)
  (pss_cons (ps_set (i := 3) sc__law_draw.nd rfl (.inl rfl) (pe_dget hu (pv 0) pe_str (fun _ _ => rfl)))
  (pss_cons (ps_dput hu (pv 0) pe_str (pe_op (op_addG (K := K)) (pv 3) pe_int) rfl)
  (pss_cons (ps_set (i := 4) sc__law_draw.nd rfl (.inl rfl) (pe_op (op_addG (K := K)) (pe_op (op_mulG (K := K)) pe_int (pv 3)) pe_int))
  (C8.pss_cut (ps_if (pt_cmpR (op_neX (K := K) hu6) (pe_dget hu (pv 0) pe_str (fun _ _ => rfl)) (pe_lst pa_nil) (nomark _)) (pss_one (ps_set (i := 4) sc__law_draw.nd rfl (.inl rfl) (pe_ix (ixG (K := K)) (pe_dget hu (pv 0) pe_str (fun _ _ => rfl)) (pe_op (op_mod) (pv 3) (pe_callB (call_lenG (K := K)) (by rfl) T.b_len bt_len (pa_cons (pe_dget hu (pv 0) pe_str (fun _ _ => rfl)) pa_nil))) (fun _ _ => rfl)))) pss_nil)
  (C8.pss_cut (ps_if (PW.pt (pw_and (pt_cmpR (op_lt) (pv 3) (pe_callB (call_lenG (K := K)) (by rfl) T.b_len bt_len (pa_cons (pe_dget hu (pv 0) pe_str (fun _ _ => rfl)) pa_nil)) (nomark _)) (pw_and1 (pt_cmpR (op_ge) (pe_callB (call_abs) (by rfl) T.b_abs bt_abs (pa_cons (pv 4) pa_nil)) (pe_op (op_pow) pe_int pe_int) (nomark _))))) (pss_cons (ps_dput hu (pv 0) pe_str (pe_op (op_fdivW) (pe_op (op_sub) (pe_callB (call_abs) (by rfl) T.b_abs bt_abs (pa_cons (pv 4) pa_nil)) (pe_op (op_pow) pe_int pe_int)) (pv 1)) rfl)
  (pss_one (ps_ret (pe_op (op_mod) (pe_op (op_sub) (pe_callB (call_abs) (by rfl) T.b_abs bt_abs (pa_cons (pv 4) pa_nil)) (pe_op (op_pow) pe_int pe_int)) (pv 1))))) pss_nil)
  (pss_cons (ps_set (i := 5) sc__law_draw.nd rfl (.inl rfl) (pe_lst (pa_cons pe_int (pa_cons pe_int (pa_cons pe_int (pa_cons pe_int (pa_cons pe_int pa_nil)))))))
  (pss_cons (ps_set (i := 6) sc__law_draw.nd rfl (.inl rfl) (pe_ix (ixG (K := K)) (pv 5) (pe_op (op_mod) (pv 3) pe_int) (fun _ _ => rfl)))
  (pss_cons (ps_set (i := 7) sc__law_draw.nd rfl (.inl rfl) (pe_op (op_mod) (pe_op (op_addG (K := K)) (pe_op (op_addG (K := K)) (pe_op (op_mulG (K := K)) (pe_op (op_mod) (pv 4) (pv 6)) pe_int) (pe_op (op_mulG (K := K)) (pe_op (op_mulG (K := K)) pe_int (pv 3)) (pv 3))) pe_int) (pv 6)))
  (pss_cons (ps_set (i := 7) sc__law_draw.nd rfl (.inl rfl) (pe_op (op_mod) (pe_op (op_mulG (K := K)) (pv 7) (pe_op (op_addG (K := K)) (pv 7) pe_int)) (pe_ix (ixG (K := K)) (pv 5) (pe_op (op_mod) (pe_op (op_addG (K := K)) (pv 3) pe_int) pe_int) (fun _ _ => rfl))))
  (pss_one (ps_ret (pe_op (op_mod) (pe_op (op_fdivW) (pe_op (op_mod) (pe_op (op_mulG (K := K)) (pv 7) (pv 7)) pe_int) pe_int) (pv 1)))))))))))))), ?_⟩
    obtain ⟨t, r, hH, hc, hcp, hL, ht0, htn, hr0⟩ := hp
    dsimp only at hH hc hcp hL
    refine ⟨.ref p, rfl, p, .int r, rfl, pen_rest hH, r, 0, rfl, rfl, _, rfl, ite2 (fun e => ?_) (fun e => ?_)⟩
    · -- a great cell's next digit
      refine ⟨.ref p, rfl, p, .int r, rfl, pen_rest hH, .int m, rfl, r, m, rfl, rfl, hm, ?_⟩
      refine ⟨.ref p, rfl, p, .int r, rfl, pen_rest hH, .int m, rfl, r, m, rfl, rfl, pow60 hm hm2 r, .ref p, rfl, p, _, rfl, pen_putR _ hH, _, rfl, ?_⟩
      exact q _ _ (Int.emod_nonneg _ (by omega)) (Int.emod_lt_of_pos _ hm) (Kp.at (Kp.refl _ _)) ⟨t, r / m, upd_same, seqL_upd hH (fun _ z => by cases z) (fun _ _ z => by cases z) hc, hcp, hL, ht0, by omega, Int.ediv_nonneg hr0 (by omega)⟩
    -- the turn
    refine ⟨.ref p, rfl, p, .int t, rfl, pen_turn hH, ?_⟩
    refine ⟨.int t, rfl, .ref p, rfl, p, _, rfl, pen_putT _ hH, ?_⟩
    have k1 : Kp p H (upd H p (penK c (t + 1) r)) := Kp.at (Kp.refl _ _)
    have h1 : (upd H p (penK c (t + 1) r)) p = some (penK c (t + 1) r) := upd_same
    have c1 : SqL K (upd H p (penK c (t + 1) r)) c (L.map V.int) := seqL_upd hH (fun _ z => by cases z) (fun _ _ z => by cases z) hc
    generalize upd H p (penK c (t + 1) r) = H1 at k1 h1 c1 ⊢
    refine ⟨.int t, rfl, .inl ⟨by decide, by decide⟩, ?_⟩
    -- if pen['cells'] != []
    refine ⟨fun σ H' => ∃ (x : Int) (d5 d6 d7 d8 : Option V), σ = [some (.ref p), some (.int m), d5, some (.int t), some (.int x), d6, d7, d8] ∧ Kp p H H' ∧ H' p = some (penK c (t + 1) r) ∧ SqL K H' c (L.map V.int), ?_, ?_⟩
    · refine ⟨.ref p, rfl, p, .ref c, rfl, pen_cells h1, Nat.zero_le _, fun l nl => ?_⟩
      have k2 := k1.new nl (o := .lst [])
      have h2 : (upd H1 l (.lst [])) p = some (penK c (t + 1) r) := by rw [upd_ne (ne_of_none h1 nl)]; exact h1
      have c2 : SqL K (upd H1 l (.lst [])) c (L.map V.int) := seq_new nl c1
      have e2 : SqL K (upd H1 l (.lst [])) l [] := .inl (.inl upd_same)
      generalize upd H1 l (.lst []) = H2 at k2 h2 c2 e2 ⊢
      refine .inr ⟨_, _, .lst c2 (dp_ints L), .lst e2 .nil, shaped_ints L, by decide, _, rfl, ?_⟩
      rw [eqv_ints_nil]
      cases hLe : L with
      | nil => exact iteF ⟨_, _, _, _, _, rfl, k2, h2, hLe ▸ c2⟩
      | cons z zs =>
        refine iteT ?_
        rw [← hLe]
        have hlen : 0 < L.length := by rw [hLe]; simp
        have hlt : (t % (L.length : Int)).toNat < L.length := by
          have a1 := Int.emod_nonneg t (show (L.length : Int) ≠ 0 by omega)
          have a2 := Int.emod_lt_of_pos t (show (0 : Int) < L.length by omega)
          omega
        refine ⟨.ref p, rfl, p, .ref c, rfl, pen_cells h2, .int t, rfl, .ref p, rfl, p, .ref c, rfl, pen_cells h2, .inl ⟨_, .inl c2, t, _, rfl, rfl, ?_, .inl ⟨c, L.map V.int, _, .int L[(t % (L.length : Int)).toNat], rfl, rfl, c2, ?_, ?_⟩⟩⟩
        · show (0 : Int) < ((L.map V.int).length : Int)
          rw [List.length_map]; omega
        · refine atI_in (j := (t % (L.length : Int)).toNat) ?_ ?_
          · rw [List.length_map, Int.toNat_of_nonneg (Int.emod_nonneg _ (by omega))]
          · rw [List.getElem?_map, List.getElem?_eq_getElem hlt]; rfl
        · exact ⟨_, _, _, _, _, rfl, k2, h2, c2⟩
    · rintro σ' H2 ⟨x, d5, d6, d7, d8, rfl, k2, h2, c2⟩
      -- a great cell
      refine ⟨fun σ H' => σ = [some (.ref p), some (.int m), d5, some (.int t), some (.int x), d6, d7, d8] ∧ H' = H2, ?_, ?_⟩
      · refine ⟨.int t, rfl, .ref p, rfl, p, .ref c, rfl, pen_cells h2, .inl ⟨_, .inl c2, t, _, rfl, rfl, _, rfl, ite2 (fun e1 => ?_) (fun e1 => iteF ⟨rfl, rfl⟩)⟩⟩
        refine ⟨.int x, rfl, x, rfl, 10, 18, rfl, rfl, ⟨by decide, by decide, by decide⟩, _, _, rfl, rfl, _, rfl, ite2 (fun e2 => ?_) (fun e2 => ⟨rfl, rfl⟩)⟩
        have e3 := of_decide_eq_true e2
        refine ⟨.int x, rfl, x, rfl, 10, 18, rfl, rfl, ⟨by decide, by decide, by decide⟩, _, _, rfl, rfl, .int m, rfl, _, m, rfl, rfl, pow60 hm hm2 _, .ref p, rfl, p, _, rfl, pen_putR _ h2, ?_⟩
        refine ⟨.int x, rfl, x, rfl, 10, 18, rfl, rfl, ⟨by decide, by decide, by decide⟩, _, _, rfl, rfl, .int m, rfl, _, m, rfl, rfl, hm, ?_⟩
        exact q _ _ (Int.emod_nonneg _ (by omega)) (Int.emod_lt_of_pos _ hm) k2.at ⟨t + 1, _, upd_same, seqL_upd h2 (fun _ z => by cases z) (fun _ _ z => by cases z) c2, hcp, hL, by omega, by omega, Int.ediv_nonneg (by omega) (by omega)⟩
      · rintro σ3 H3 ⟨rfl, rfl⟩
        -- a mixed one
        refine ⟨(by show 5 ≤ sizeLine; decide), fun l nl => ?_⟩
        have k3 := k2.new nl (o := .lst (primesL.map V.int))
        have h3 : (upd H3 l (.lst (primesL.map V.int))) p = some (penK c (t + 1) r) := by rw [upd_ne (ne_of_none h2 nl)]; exact h2
        have c3 : SqL K (upd H3 l (.lst (primesL.map V.int))) c (L.map V.int) := seq_new nl c2
        have e3 : SqL K (upd H3 l (.lst (primesL.map V.int))) l (primesL.map V.int) := .inl (.inl upd_same)
        show _
        obtain ⟨p1, g1, g2, g3⟩ := primes_at t
        obtain ⟨p2, f1, f2, f3⟩ := primes_at (t + 3)
        refine ⟨.ref l, rfl, .int t, rfl, t, 5, rfl, rfl, (by show (0 : Int) < 5; decide), .inl ⟨l, _, _, _, rfl, rfl, e3, g1, ?_⟩⟩
        have a0 := Int.emod_nonneg x (show p1 ≠ 0 by omega)
        have a1 := Int.emod_lt_of_pos x (show 0 < p1 by omega)
        refine ⟨.int x, rfl, .int p1, rfl, x, p1, rfl, rfl, by omega, .inr ⟨by decide, by decide⟩, .int t, rfl, .inl ⟨by decide, by decide⟩, .int t, rfl, .inr ⟨by omega, by omega⟩, .int p1, rfl, _, p1, rfl, rfl, by omega, ?_⟩
        generalize (x % p1 * 69621 + 40692 * t * t + 11) = y1
        have b0 := Int.emod_nonneg y1 (show p1 ≠ 0 by omega)
        have b1 := Int.emod_lt_of_pos y1 (show 0 < p1 by omega)
        refine ⟨.int (y1 % p1), rfl, .int (y1 % p1), rfl, .inl ⟨by omega, by omega⟩, .ref l, rfl, .int t, rfl, t + 3, 5, rfl, rfl, (by show (0 : Int) < 5; decide), .inl ⟨l, _, _, _, rfl, rfl, e3, f1, _, p2, rfl, rfl, by omega, ?_⟩⟩
        have d0 := Int.emod_nonneg (y1 % p1 * (y1 % p1 + 48271)) (show p2 ≠ 0 by omega)
        have d1 := Int.emod_lt_of_pos (y1 % p1 * (y1 % p1 + 48271)) (show 0 < p2 by omega)
        refine ⟨.int (y1 % p1 * (y1 % p1 + 48271) % p2), rfl, .int (y1 % p1 * (y1 % p1 + 48271) % p2), rfl, .inl ⟨by omega, by omega⟩, _, 2147483549, rfl, rfl, (by show (0 : Int) < 2147483549; decide), _, 64, rfl, rfl, wide_div (b := 7) (by decide) (by decide) (by decide) (by decide), .int m, rfl, _, m, rfl, rfl, hm, ?_⟩
        exact q _ _ (Int.emod_nonneg _ (by omega)) (Int.emod_lt_of_pos _ hm) k3 ⟨t + 1, r, h3, c3, hcp, hL, by omega, by omega, hr0⟩
/-- what is picked of: a list, a tuple, a text -/
def PickOf (K : PySem.W.Frag) (H : Hp) (p : Addr) (sv : V) (xs : List V) : Prop := (∃ a, sv = .ref a ∧ a ≠ p ∧ (SqL K H a xs ∨ SqT K H a xs)) ∨ ∃ z : Str, sv = .str z ∧ z.length ≤ sizeLine ∧ xs = z.cps.toList.map fun o => V.str ⟨#[o]⟩
def spPick (K : PySem.W.Frag) : Sp := fun vs H Q _ => ∃ (p : Addr) (sv : V) (qc : Addr × List Int) (n : Nat) (xs : List V), vs = [.ref p, sv] ∧ Pen K H p qc n ∧ n < 1000000 ∧ PickOf K H p sv xs ∧ 0 < xs.length ∧ xs.length < 1000000 ∧
  ∀ (v : V) (H' : Hp), v ∈ xs → Kp p H H' → Pen K H' p qc (n + 1) → Q v H'
theorem c_pick {c : CA} (T : Txt P w K mg base c) (c_law_draw : C8.Cal P w K mg base 1 "_law_draw" (spDraw K) []) {f : Addr} {fd : FuncData} (F : C8.Def K mg "_law_pick" s__law_pick f fd) (b : Binds K fd ["pen", "some"] []) : C8.Cal P w K mg base 2 "_law_pick" (spPick K) [] := by
  refine C8.cal0 F b .nil sc__law_pick (fun vs H Q E h => ?_) (fun cdv A outer s H vs Q E hr h => ?_)
  · obtain ⟨p, sv, qc, n, xs, rfl, _⟩ := h
    rfl
  · obtain ⟨p, sv, qc, n, xs, rfl, hp, hn, hs, h0, h1, q⟩ := h
    have hu := hu_of hr
    have hu6 := hu64 hr
    refine ⟨_, (pss_one (ps_ret (pe_ix (ixG (K := K)) (pv 1) (C8.pe_c c_law_draw hr (by decide) (by rfl) (pa_cons (pv 0) (pa_cons (pe_callB (call_lenG (K := K)) (by rfl) T.b_len bt_len (pa_cons (pv 1) pa_nil)) pa_nil))) (fun _ _ => rfl)))), ?_⟩
    rcases hs with ⟨a, rfl, hap, hs⟩ | ⟨z, rfl, hz, rfl⟩
    · refine ⟨.ref a, rfl, .ref p, rfl, .ref a, rfl, .inl ⟨xs, hs, ?_⟩⟩
      refine ⟨p, qc, _, n, rfl, hp, hn, by omega, by omega, fun d H' d0 d1 k hp' => ?_⟩
      have hlt : d.toNat < xs.length := by omega
      have hat : atI xs d = some xs[d.toNat] := atI_in (by omega) (List.getElem?_eq_getElem hlt)
      rcases hs with hs | hs
      · refine .inl ⟨a, xs, d, _, rfl, rfl, ?_, hat, q _ _ (List.getElem_mem hlt) k hp'⟩
        rcases hs with (h | ⟨u, h⟩) | h
        · exact .inl (.inl (k _ _ hap h))
        · exact .inl (.inr ⟨u, k _ _ hap h⟩)
        · exact .inr h
      · refine .inr (.inl ⟨a, xs, d, _, rfl, rfl, ?_, hat, q _ _ (List.getElem_mem hlt) k hp'⟩)
        rcases hs with (h | ⟨u, h⟩) | h
        · exact .inl (.inl (k _ _ hap h))
        · exact .inl (.inr ⟨u, k _ _ hap h⟩)
        · exact .inr h
    · rw [List.length_map, Array.length_toList] at h0 h1
      refine ⟨.str z, rfl, .ref p, rfl, .str z, rfl, hz, ?_⟩
      refine ⟨p, qc, _, n, rfl, hp, hn, by show (0 : Int) < z.cps.size; omega, by show (z.cps.size : Int) < 2 ^ 60; omega, fun d H' d0 d1 k hp' => ?_⟩
      have hlt : d.toNat < z.cps.toList.length := by rw [Array.length_toList]; have : d < z.cps.size := d1; omega
      exact .inr (.inr ⟨z, d, _, rfl, rfl, hz, at_in (j := d.toNat) (by omega) (List.getElem?_eq_getElem hlt), q _ _ (List.mem_map.mpr ⟨_, List.getElem_mem hlt, rfl⟩) k hp'⟩)
def spPen (K : PySem.W.Frag) : Sp := fun vs H Q _ => ∃ (a : Addr) (L : List Int), vs = [.ref a] ∧ SqL K H a (L.map V.int) ∧ L.length ≤ 63 ∧
  ∀ (p : Addr) (qc : Addr × List Int) (H' : Hp), H p = none → Same H H' → Pen K H' p qc 0 → Q (.ref p) H'
theorem c_pen {c : CA} (T : Txt P w K mg base c) {f : Addr} {fd : FuncData} (F : C8.Def K mg "_law_pen" s__law_pen f fd) (b : Binds K fd ["script"] []) : C8.Cal P w K mg base 1 "_law_pen" (spPen K) [] := by
  refine C8.cal0 F b .nil sc__law_pen (fun vs H Q E h => ?_) (fun cdv A outer s H vs Q E hr h => ?_)
  · obtain ⟨a, L, rfl, _⟩ := h
    rfl
  · obtain ⟨a, L, rfl, hs, hl, q⟩ := h
    have hu := hu_of hr
    have hu6 := hu64 hr
    refine ⟨_, (pss_one (ps_ret (pe_disp (pps_cons pe_str (pe_callTy (call_list_of) (by rfl) T.b_list bt_list (pa_cons (pe_slice (sl_any (K := K)) (pv 0) po_none (po_some pe_int)) pa_nil)) (pps_cons pe_str pe_int (pps_cons pe_str pe_int pps_nil))) rfl rfl (by simp) (by decide)))), ?_⟩
    intro p np
    have s1 : Same H (upd H p (.dK [])) := fun b o e => by rw [upd_ne (ne_of_none e np)]; exact e
    -- the cells: a copy of the script
    refine ⟨.ref a, rfl, 63, rfl, .inl ⟨a, L.map V.int, rfl, s1.seq hs, fun l1 n1 => ?_⟩⟩
    rw [cut63 (by rw [List.length_map]; exact hl)]
    have s2 : Same (upd H p (.dK [])) (upd (upd H p (.dK [])) l1 (.lst (L.map V.int))) := fun b o e => by rw [upd_ne (ne_of_none e n1)]; exact e
    refine ⟨l1, L.map V.int, rfl, .inl (.inl (.inl upd_same)), fun l2 n2 => ?_⟩
    have s3 : Same (upd (upd H p (.dK [])) l1 (.lst (L.map V.int))) (upd (upd (upd H p (.dK [])) l1 (.lst (L.map V.int))) l2 (.lst (L.map V.int))) := fun b o e => by rw [upd_ne (ne_of_none e n2)]; exact e
    have hp3 : (upd (upd (upd H p (.dK [])) l1 (.lst (L.map V.int))) l2 (.lst (L.map V.int))) p = some (.dK []) := s3 _ _ (s2 _ _ upd_same)
    have hl2 : (upd (upd (upd H p (.dK [])) l1 (.lst (L.map V.int))) l2 (.lst (L.map V.int))) l2 = some (.lst (L.map V.int)) := upd_same
    have sA := s1.trans (s2.trans s3)
    generalize upd (upd (upd H p (.dK [])) l1 (.lst (L.map V.int))) l2 (.lst (L.map V.int)) = H3 at hp3 hl2 sA
    refine ⟨hp3, [(.inr "cells", .ref l2), (.inr "turn", .int 0), (.inr "rest", .int 0)], rfl, (by show 3 ≤ 15; decide), ?_⟩
    have ne : l2 ≠ p := ne_of hl2 hp3 (by intro z; cases z)
    refine q p (l2, L) _ np (fun b o e => ?_) ⟨0, 0, upd_same, .inl (.inl ?_), ne, hl, by decide, by decide, by decide⟩
    · rw [upd_ne (ne_of_none e np)]
      exact sA b o e
    · rw [upd_ne ne]
      exact hl2
end

end Wd

set_option Elab.async false
set_option linter.all false
set_option maxRecDepth 100000
set_option maxHeartbeats 4000000
/-! More rules by values: list(..) and tuple(..) of lists, tuples, dicts; data without dicts that may be compared. -/
namespace Wd
open PySem PySem.Spec PyProof.Rows L2
theorem same_mut {H H' : Hp} {p : Addr} {o : HO} (s : Same H H') (n : H p = none) : Same H (upd H' p o) := fun a u e => by
  rw [upd_ne (ne_of_none e n)]
  exact s a u e
theorem take_snoc {α : Type} {l : List α} {i : Nat} {x : α} (h : l[i]? = some x) : l.take (i + 1) = l.take i ++ [x] := by
  rw [List.take_add_one, h]
  rfl
theorem yes_if {σ : L2.St} {H : Hp} {A B : Bool → Hp → Prop} (h : A true H) : tYes σ H fun b H3 => if b = true then A b H3 else B b H3 := by
  show (if true = true then A true H else B true H)
  rw [if_pos rfl]
  exact h
def rListG (K : PySem.W.Frag) : List V → Hp → VK → Prop := fun xs H Q => ∃ p, xs = [.ref p] ∧ ((∃ ys, (SqL K H p ys ∨ SqT K H p ys) ∧ ∀ l, H l = none → Q (.ref l) (upd H l (.lst ys))) ∨
  ∃ kvs : List (Key × V), Rd H p (.dK kvs) ∧ ∀ l, H l = none → Q (.ref l) (upd H l (.lst (kvs.map fun kv => kV kv.1))))
theorem call_listG {X : Cx} {K : PySem.W.Frag} (hc : X.calm = true) (hK : X.K = K := by rfl) : CallR X (.type "list") (rListG K) := by
  subst hK
  intro pins s σ H xs us Q I r h
  obtain ⟨p, rfl, h⟩ := h
  rcases h with ⟨ys, h1, h2⟩ | ⟨kvs, h1, h2⟩
  · exact call_list_of pins s σ H _ us Q I r ⟨p, ys, rfl, h1, h2⟩
  · exact call_listD hc pins s σ H _ us Q I r ⟨p, kvs, rfl, h1, h2⟩
/-- may be compared -/
def Plain (d : PyData) : Prop := d.hasDict = false ∧ d.canLay0 = true ∧ d.depth ≤ 10
theorem plain_str {x : Str} (h : PyData.strOk x = true) : Plain (.str x) := ⟨rfl, by simp only [PyData.canLay0]; exact h, by simp only [PyData.depth]; omega⟩
theorem plain_int (i : Int) : Plain (.int i) := ⟨rfl, by simp only [PyData.canLay0], by simp only [PyData.depth]; omega⟩
theorem plain_none : Plain .none := ⟨rfl, by simp only [PyData.canLay0], by simp only [PyData.depth]; omega⟩
theorem plain_all {N : Addr → Prop} {K : PySem.W.Frag} {H : Hp} : ∀ {ys : List V}, (∀ y ∈ ys, ∃ d, Dq N K H y d ∧ Plain d) →
    ∃ ds, DpAll K H ys ds ∧ PyData.canLayAll0 ds = true ∧ PyData.depthAll ds ≤ 10 ∧ ds.length = ys.length
  | [], _ => ⟨[], .nil, by simp only [PyData.canLayAll0], by simp only [PyData.depthAll]; omega, rfl⟩
  | y :: ys, h => by
    obtain ⟨d, h1, h2, h3, h4⟩ := h y List.mem_cons_self
    obtain ⟨ds, g1, g2, g3, g4⟩ := plain_all (ys := ys) fun z hz => h z (List.mem_cons_of_mem _ hz)
    exact ⟨d :: ds, .cons (Dq.dp d y h2 h1) g1, by simp only [PyData.canLayAll0, h3, g2, Bool.and_self], by simp only [PyData.depthAll]; omega, by simp only [List.length_cons, g4]⟩
theorem shaped_list {ds : List PyData} (h : PyData.canLayAll0 ds = true) (h2 : PyData.depthAll ds ≤ 10) : SeqAt.shaped (.list ds) = true := by
  show (PyData.canLay0 _ && decide _) = true
  rw [Bool.and_eq_true]
  exact ⟨by simp only [PyData.canLay0]; exact h, decide_eq_true (by simp only [PyData.depth]; omega)⟩
theorem eqv_nil (ds : List PyData) : (!PyData.eqv (.list ds) (.list [])) = !ds.isEmpty := by
  cases ds <;> simp [PyData.eqv, PyData.eqvAll]
/-- xs != [] where [] was just made -/
theorem ne_nil {N : Addr → Prop} {K : PySem.W.Frag} {H : Hp} {a l : Addr} {ys : List V} {Q : VK} (ha : SqL K H a ys) (hl : SqL K H l []) (hy : ∀ y ∈ ys, ∃ d, Dq N K H y d ∧ Plain d) (q : Q (.bl (!ys.isEmpty)) H) : rNe (.ref a) (.ref l) H Q ∨ rNeD K (.ref a) (.ref l) H Q := by
  obtain ⟨ds, g1, g2, g3, g4⟩ := plain_all hy
  refine .inr ⟨.list ds, .list [], .lst ha g1, .lst hl .nil, shaped_list g2 g3, by decide, ?_⟩
  rw [eqv_nil]
  have : ds.isEmpty = ys.isEmpty := by cases ds <;> cases ys <;> simp_all
  rw [this]
  exact q
theorem seqI {n : Nat} {d : Int} (h0 : 0 ≤ d) (h1 : d < n) : seqIndex? d n = some d.toNat := by
  unfold seqIndex?
  simp only []
  split <;> first | (simp; omega) | skip
  all_goals omega
end Wd

set_option Elab.async false
set_option linter.all false
set_option maxRecDepth 100000
set_option maxHeartbeats 4000000
namespace Wd
open PySem PySem.Spec PyProof.Rows L2
abbrev s__law_heft : Stmt := topS 24
theorem sc__law_heft : FnScope ["pen"] ["pen"] (C8.fnScope s__law_heft) := ⟨rfl, rfl, rfl, by decide +kernel, rfl, by decide +kernel, by decide +kernel⟩
section
variable {P : Program} {w : World} {K : PySem.W.Frag} {mg : Str → Option Value} {base : Heap}
def spHeft (K : PySem.W.Frag) : Sp := fun vs H Q _ => ∃ (p : Addr) (qc : Addr × List Int) (n : Nat), vs = [.ref p] ∧ Pen K H p qc n ∧ n < 1000000 ∧
  ∀ (h : Int) (H' : Hp), 0 ≤ h → h ≤ 9999999 → Kp p H H' → Pen K H' p qc (n + 1) → Q (.int h) H'
def heftsL : List Int := [0, 1, 1, 2, 3, 5, 9, 10, 4, 9999999]
theorem hefts_in {h : Int} (e : h ∈ heftsL) : 0 ≤ h ∧ h ≤ 9999999 := by
  revert h
  decide
theorem c_heft {c : CA} (T : Txt P w K mg base c) (c_law_draw : C8.Cal P w K mg base 1 "_law_draw" (spDraw K) []) {f : Addr} {fd : FuncData} (F : C8.Def K mg "_law_heft" s__law_heft f fd) (b : Binds K fd ["pen"] []) : C8.Cal P w K mg base 2 "_law_heft" (spHeft K) [] := by
  refine C8.cal0 F b .nil sc__law_heft (fun vs H Q E h => ?_) (fun cdv A outer s H vs Q E hr h => ?_)
  · obtain ⟨p, qc, n, rfl, _⟩ := h
    rfl
  · obtain ⟨p, qc, n, rfl, hp, hn, q⟩ := h
    have hu := hu_of hr
    have hu6 := hu64 hr
    refine ⟨_, (pss_one (ps_ret (pe_ix (ixG (K := K)) (pe_lst (pa_cons pe_int (pa_cons pe_int (pa_cons pe_int (pa_cons pe_int (pa_cons pe_int (pa_cons pe_int (pa_cons pe_int (pa_cons pe_int (pa_cons pe_int (pa_cons pe_int pa_nil))))))))))) (C8.pe_c c_law_draw hr (by decide) (by rfl) (pa_cons (pv 0) (pa_cons pe_int pa_nil))) (fun _ _ => rfl)))), ?_⟩
    refine ⟨by show 10 ≤ sizeLine; decide, fun l nl => ?_⟩
    have hp1 := hp.same (same_new nl (o := .lst (heftsL.map V.int)))
    refine ⟨.ref p, rfl, p, qc, _, n, rfl, hp1, hn, by decide, by decide, fun d H' d0 d1 k hp' => ?_⟩
    have hl : SqL K H' l (heftsL.map V.int) := .inl (.inl (k _ _ (hp.off nl) upd_same))
    have hlt : d.toNat < heftsL.length := by show _ < 10; omega
    refine .inl ⟨l, _, d, .int heftsL[d.toNat], rfl, rfl, hl, atI_in (j := d.toNat) (by omega) (by rw [List.getElem?_map, List.getElem?_eq_getElem hlt]; rfl), ?_⟩
    have hh := hefts_in (List.getElem_mem hlt)
    exact q _ _ hh.1 hh.2 (fun b o nb e => k b o nb (same_new nl b o e)) hp'
/-! ### a drawn order -/
def Src (K : PySem.W.Frag) (H : Hp) (a : Addr) (ys : List V) : Prop := SqL K H a ys ∨ SqT K H a ys ∨ ∃ kvs : List (Key × V), Rd H a (.dK kvs) ∧ ys = kvs.map fun kv => kV kv.1
theorem perm_get {α : Type} : ∀ {xs : List α} {i : Nat} (h : i < xs.length), (xs[i] :: xs.eraseIdx i).Perm xs
  | x :: xs, 0, _ => List.Perm.refl _
  | x :: xs, i + 1, h => by
    have h' : i < xs.length := by simpa using h
    have := perm_get h'
    simp only [List.getElem_cons_succ, List.eraseIdx_cons_succ]
    exact (List.Perm.swap _ _ _).trans (this.cons x)
theorem small60 {n : Nat} (h : n < 1000000) : (n : Int) < 2 ^ 60 := by omega
theorem perm_move {α : Type} {xs ys : List α} {i : Nat} (h : i < xs.length) : (xs.eraseIdx i ++ (ys ++ [xs[i]])).Perm (xs ++ ys) := by
  have a : (xs.eraseIdx i ++ (ys ++ [xs[i]])).Perm ((xs[i] :: xs.eraseIdx i) ++ ys) := by
    rw [← List.append_assoc]
    exact (List.perm_append_singleton _ _).trans (List.Perm.refl _)
  exact a.trans ((perm_get h).append_right ys)
theorem small1000000 {n : Nat} (h : n < 1000000) : n < sizeLine := by rw [sizeLine_eq]; omega
theorem Src.list {K : PySem.W.Frag} {H : Hp} {a : Addr} {ys : List V} {C : List V → Prop} (h : Src K H a ys) (q : C ys) : (∃ ys, (SqL K H a ys ∨ SqT K H a ys) ∧ C ys) ∨ ∃ kvs : List (Key × V), Rd H a (.dK kvs) ∧ C (kvs.map fun kv => kV kv.1) := by
  rcases h with h | h | ⟨kvs, h, rfl⟩
  · exact .inl ⟨ys, .inl h, q⟩
  · exact .inl ⟨ys, .inr h, q⟩
  · exact .inr ⟨kvs, h, q⟩
theorem Dq.kp {K : PySem.W.Frag} {H H' : Hp} {p : Addr} {v : V} {d : PyData} (h : Dq (· ≠ p) K H v d) (k : Kp p H H') : Dq (· ≠ p) K H' v d := Dq.move (fun _ n => n) (fun a o n e => k a o n e) d v h
theorem DqAll.kp {K : PySem.W.Frag} {H H' : Hp} {p : Addr} {v : List V} {d : List PyData} (h : DqAll (· ≠ p) K H v d) (k : Kp p H H') : DqAll (· ≠ p) K H' v d := DqAll.move (fun _ n => n) (fun a o n e => k a o n e) d v h
end
end Wd

set_option Elab.async false
set_option linter.all false
set_option maxRecDepth 100000
set_option maxHeartbeats 4000000
/-! Names by draws: lists of signs. -/
namespace Wd
open PySem PySem.Spec PyProof.Rows L2 SX
def IsName (l : List Nat) : Prop := 1 ≤ l.length ∧ l.length ≤ 8 ∧ ∀ c ∈ l, 97 ≤ c ∧ c ≤ 122
def NameOk (x : Str) : Prop := IsName x.cps.toList
theorem joinL_ones : ∀ zs : List Nat, TL.joinL [] (zs.map fun c => [c]) = zs
  | [] => rfl
  | [c] => rfl
  | c :: d :: r => by
    have := joinL_ones (d :: r)
    simp only [List.map_cons] at this ⊢
    rw [TL.joinL, this]
    simp
def nmAt (bl : List Nat) (at' first step k m : Nat) : List Nat := bl.take at' ++ (97 + (first + step * k) % 26) :: (bl.drop (at' + 1)).take m
theorem nmAt_len {bl : List Nat} {a f s k m : Nat} (h : a < bl.length) : a + 1 ≤ (nmAt bl a f s k m).length ∧ (nmAt bl a f s k m).length ≤ bl.length := by
  unfold nmAt
  rw [List.length_append, List.length_cons, List.length_take, List.length_take, List.length_drop]
  omega
theorem nmAt_name {bl : List Nat} {a f s k m : Nat} (h : a < bl.length) (hb : bl.length ≤ 8) (hc : ∀ c ∈ bl, 97 ≤ c ∧ c ≤ 122) : IsName (nmAt bl a f s k m) := by
  have hl := nmAt_len (f := f) (s := s) (k := k) (m := m) h
  refine ⟨by omega, by omega, fun c hm => ?_⟩
  unfold nmAt at hm
  rcases List.mem_append.mp hm with hm | hm
  · exact hc _ (List.mem_of_mem_take hm)
  · rcases List.mem_cons.mp hm with rfl | hm
    · have := Nat.mod_lt (f + s * k) (show 0 < 26 by decide)
      omega
    · exact hc _ (List.mem_of_mem_drop (List.mem_of_mem_take hm))
theorem nmAt_get {bl : List Nat} {a f s k m : Nat} (h : a < bl.length) : (nmAt bl a f s k m)[a]? = some (97 + (f + s * k) % 26) := by
  unfold nmAt
  have e : (bl.take a).length = a := by rw [List.length_take]; omega
  rw [List.getElem?_append_right (by omega), e, Nat.sub_self]
  rfl
def stepsL : List Nat := [1, 3, 5, 7, 9, 11, 15, 17, 19, 21, 23, 25]
theorem steps_apart {s : Nat} (h : s ∈ stepsL) {f j k : Nat} (hj : j < 18) (hk : k < 18) (e : (f + s * j) % 26 = (f + s * k) % 26) : j = k := by
  simp only [stepsL, List.mem_cons, List.mem_nil_iff, or_false] at h
  rcases h with rfl | rfl | rfl | rfl | rfl | rfl | rfl | rfl | rfl | rfl | rfl | rfl <;> omega
theorem nmAt_inj {bl : List Nat} {a f s j k m m' : Nat} (h : a < bl.length) (hs : s ∈ stepsL) (hj : j < 18) (hk : k < 18) (e : nmAt bl a f s j m = nmAt bl a f s k m') : j = k := by
  have h1 := nmAt_get (f := f) (s := s) (k := j) (m := m) h
  have h2 := nmAt_get (f := f) (s := s) (k := k) (m := m') h
  rw [e, h2] at h1
  have h3 := Option.some.inj h1
  exact steps_apart hs (f := f) hj hk (by omega)
theorem nodup_range {α : Type} {f : Nat → α} {n : Nat} (h : ∀ i j, i < n → j < n → f i = f j → i = j) : ((List.range n).map f).Nodup := by
  unfold List.Nodup
  rw [List.pairwise_map]
  refine List.Pairwise.imp_of_mem (R := (· < ·)) (fun {a b} ha hb hlt e => ?_) List.pairwise_lt_range
  have := h a b (List.mem_range.mp ha) (List.mem_range.mp hb) e
  omega
theorem nodup_set {α : Type} {xs : List α} {i : Nat} {v : α} (h : xs.Nodup) (hv : v ∉ xs) : (xs.set i v).Nodup := by
  induction xs generalizing i with
  | nil => exact h
  | cons x r ih =>
    cases i with
    | zero =>
      rw [List.set_cons_zero, List.nodup_cons]
      exact ⟨fun m => hv (List.mem_cons_of_mem _ m), (List.nodup_cons.mp h).2⟩
    | succ i =>
      rw [List.set_cons_succ, List.nodup_cons]
      refine ⟨fun m => ?_, ih (List.nodup_cons.mp h).2 fun m => hv (List.mem_cons_of_mem _ m)⟩
      rcases List.mem_or_eq_of_mem_set m with m | e
      · exact (List.nodup_cons.mp h).1 m
      · exact hv (e ▸ List.mem_cons_self)
theorem S_cps (l : List Nat) : (S l).cps.toList = l := by simp
theorem name_S {l : List Nat} (h : IsName l) : NameOk (S l) := by
  unfold NameOk
  rw [S_cps]
  exact h
theorem name_ok {x : Str} (h : NameOk x) : PyData.strOk x = true := by
  unfold PyData.strOk
  rw [← Array.all_toList, List.all_eq_true]
  intro c hc
  have := (h.2.2 c hc).2
  exact decide_eq_true (by omega)
theorem name_len {x : Str} (h : NameOk x) : 1 ≤ x.length ∧ x.length ≤ 8 := by
  have e : x.length = x.cps.toList.length := by simp [Str.length]
  rw [e]
  exact ⟨h.1, h.2.1⟩
/-! ### the words -/
def wordsA : List Str := ["room", "door", "stone", "walker", "go", "lift", "lay", "wait", "both", "on", "turn", "at", "lies"]
def wordsB : List Str := ["do", "heft", "rows", "wall", "open"]
def wordsL : List Str := wordsA ++ wordsB
def wordsCut (turn many : Nat) : List Str := ((wordsL ++ wordsL).drop turn).take many
instance (l : List Nat) : Decidable (IsName l) := by unfold IsName; infer_instance
instance (x : Str) : Decidable (NameOk x) := by unfold NameOk; infer_instance
theorem words_names : ∀ x ∈ wordsL ++ wordsL, NameOk x := by decide +kernel
theorem words_18 : ∀ t : Fin 18, (((wordsL ++ wordsL).drop t).take 18).Nodup := by decide +kernel
theorem wordsCut_ok {t m : Nat} (ht : t < 18) (hm : m ≤ 18) : (wordsCut t m).Nodup ∧ (wordsCut t m).length = m ∧ ∀ x ∈ wordsCut t m, NameOk x := by
  refine ⟨?_, ?_, fun x hx => words_names x (List.mem_of_mem_drop (List.mem_of_mem_take hx))⟩
  · have h := words_18 ⟨t, ht⟩
    have e : wordsCut t m = ((((wordsL ++ wordsL).drop t).take 18)).take m := by
      unfold wordsCut
      rw [List.take_take, Nat.min_eq_left hm]
    rw [e]
    exact h.sublist (List.take_sublist _ _)
  · unfold wordsCut
    rw [List.length_take, List.length_drop, show (wordsL ++ wordsL).length = 36 from rfl]
    omega
end Wd

set_option Elab.async false
set_option linter.all false
set_option maxRecDepth 100000
set_option maxHeartbeats 4000000
namespace Wd
open PySem PySem.Spec PyProof.Rows L2
abbrev s__law_names : Stmt := topS 23
theorem sc__law_names : FnScope ["pen", "many", "words", "turn", "letters", "k", "base", "at", "first", "cut", "step", "found", "tail"] ["pen", "many"] (C8.fnScope s__law_names) := ⟨rfl, rfl, rfl, by decide +kernel, rfl, by decide +kernel, by decide +kernel⟩
def lettersZ : Str := "abcdefghijklmnopqrstuvwxyz"
theorem letters_in : ∀ c ∈ lettersZ.cps.toList, 97 ≤ c ∧ c ≤ 122 := by decide +kernel
def mk (cu : Int) (k : Nat) : Nat := if cu = 0 then 8 else k % 3
theorem mk_at {cu : Int} {i : Nat} (h0 : 0 ≤ cu) (h1 : cu < 2) : atI [V.int 8, V.int ((0 + (i : Int)) % 3)] cu = some (.int (mk cu i)) := by
  have h : cu = 0 ∨ cu = 1 := by omega
  rcases h with rfl | rfl
  · rfl
  · have e : ((mk 1 i : Nat) : Int) = (0 + (i : Int)) % 3 := by
      show ((i % 3 : Nat) : Int) = _
      omega
    rw [e]
    rfl
theorem steps_le : ∀ {s : Nat}, s ∈ stepsL → s ≤ 25 := by decide
theorem letters_at : ∀ j : Nat, j < 26 → lettersZ.cps.toList[j]? = some (97 + j) := by decide +kernel
theorem ones_sum : ∀ bl : List Nat, (bl.map fun c => (SX.S [c]).length).sum = bl.length
  | [] => rfl
  | c :: r => by
    rw [List.map_cons, List.sum_cons, ones_sum r, List.length_cons]
    show 1 + _ = _
    omega
theorem Kp.free {p l : Addr} {H H' : Hp} (k : Kp p H H') (ne : l ≠ p) (n : H' l = none) : H l = none := by
  cases e : H l with
  | none => rfl
  | some o =>
    rw [k _ _ ne e] at n
    cases n
theorem cutV_from {xs : List V} {t : Int} (h : 0 ≤ t) : cutV xs (some t) none = xs.drop t.toNat := by
  obtain ⟨m, rfl⟩ := Int.eq_ofNat_of_zero_le h
  unfold cutV
  rw [HT.sIx_nat, HT.sIx_none, Int.toNat_natCast]
  by_cases c : m ≤ xs.length
  · rw [Nat.min_eq_left c, List.take_of_length_le (by rw [List.length_drop]; omega)]
  · rw [Nat.min_eq_right (by omega), Nat.sub_self, List.take_zero, List.drop_eq_nil_of_le (by omega)]
theorem cutV_to {xs : List V} {t : Int} (h : 0 ≤ t) : cutV xs none (some t) = xs.take t.toNat := by
  obtain ⟨m, rfl⟩ := Int.eq_ofNat_of_zero_le h
  unfold cutV
  rw [HT.sIx_nat, HT.sIx_none, Int.toNat_natCast, List.drop_zero, Nat.sub_zero]
  by_cases c : m ≤ xs.length
  · rw [Nat.min_eq_left c]
  · rw [Nat.min_eq_right (by omega), List.take_of_length_le (by omega), List.take_of_length_le (by omega)]
theorem Pen.le {K : PySem.W.Frag} {H : Hp} {p : Addr} {q : Addr × List Int} {n m : Nat} (h : Pen K H p q n) (l : n ≤ m) : Pen K H p q m := by
  obtain ⟨t, r, h1, h2, h3, h4, h5, h6, h7⟩ := h
  exact ⟨t, r, h1, h2, h3, h4, h5, by omega, h7⟩
section
variable {P : Program} {w : World} {K : PySem.W.Frag} {mg : Str → Option Value} {base : Heap}
def spNames (K : PySem.W.Frag) : Sp := fun vs H Q _ => ∃ (p : Addr) (qc : Addr × List Int) (n many : Nat), vs = [.ref p, .int many] ∧ Pen K H p qc n ∧ n + 20 < 1000000 ∧ 1 ≤ many ∧ many ≤ 18 ∧
  ∀ (l : Addr) (xs : List Str) (H' : Hp), xs.length = many → xs.Nodup → (∀ x ∈ xs, NameOk x) → H l = none → H' l = some (.lst (xs.map V.str)) → l ≠ p → Kp p H H' → Pen K H' p qc (n + 20) → Q (.ref l) H'
theorem c_names {c : CA} (T : Txt P w K mg base c) (c_law_draw : C8.Cal P w K mg base 1 "_law_draw" (spDraw K) []) (c_law_pick : C8.Cal P w K mg base 2 "_law_pick" (spPick K) []) {f : Addr} {fd : FuncData} (F : C8.Def K mg "_law_names" s__law_names f fd) (b : Binds K fd ["pen", "many"] []) : C8.Cal P w K mg base 3 "_law_names" (spNames K) [] := by
  refine C8.cal0 F b .nil sc__law_names (fun vs H Q E h => ?_) (fun cdv A outer s H vs Q E hr h => ?_)
  · obtain ⟨p, qc, n, many, rfl, _⟩ := h
    rfl
  · obtain ⟨p, qc, n, many, rfl, hp, hn, m1, m2, q⟩ := h
    have hu := hu_of hr
    have hu6 := hu64 hr
    refine ⟨_, (pss_cons (ps_if (pt_cmpR (op_eqX (K := K) hu6) (C8.pe_c c_law_draw hr (by decide) (by rfl) (pa_cons (pv 0) (pa_cons pe_int pa_nil))) pe_int (nomark _)) (pss_cons (ps_set (i := 2) sc__law_names.nd rfl (.inl rfl) (pe_lst (pa_cons pe_str (pa_cons pe_str (pa_cons pe_str (pa_cons pe_str (pa_cons pe_str (pa_cons pe_str (pa_cons pe_str (pa_cons pe_str (pa_cons pe_str (pa_cons pe_str (pa_cons pe_str (pa_cons pe_str (pa_cons pe_str pa_nil)))))))))))))))
  (pss_cons (ps_set (i := 3) sc__law_names.nd rfl (.inl rfl) (C8.pe_c c_law_draw hr (by decide) (by rfl) (pa_cons (pv 0) (pa_cons pe_int pa_nil))))
  (pss_one (ps_ret (pe_slice (sl_any (K := K)) (pe_slice (sl_any (K := K)) (pe_op (op_mulG (K := K)) (pe_op (op_addG (K := K)) (pv 2) (pe_lst (pa_cons pe_str (pa_cons pe_str (pa_cons pe_str (pa_cons pe_str (pa_cons pe_str pa_nil))))))) pe_int) (po_some (pv 3)) po_none) po_none (po_some (pv 1))))))) pss_nil)
  (pss_cons (ps_set (i := 4) sc__law_names.nd rfl (.inr rfl) pe_str)
  (pss_cons (ps_set (i := 6) sc__law_names.nd rfl (.inl rfl) (pe_bm PySem.F.plainAttrs_str PySem.F.slot_str_join PySem.F.type_str_join mt_join pe_str (pa_cons (pe_lc (own := [("k", 5)]) rfl sc__law_names.nd (pi_range1 rfl T.b_range (pa_cons (pe_op (op_addG (K := K)) pe_int (C8.pe_c c_law_draw hr (by decide) (by rfl) (pa_cons (pv 0) (pa_cons pe_int pa_nil)))) pa_nil)) (blkOk_by (by kernel_rfl)) (fun _ _ _ _ _ => (pg_name (i := 5) sc__law_names.nd rfl (.inl rfl))) (fun _ _ _ _ _ => pts_nil)
      (fun _ _ _ _ _ => (C8.pe_c c_law_pick hr (by decide) (by rfl) (pa_cons (pv 0) (pa_cons (pv 4) pa_nil))))) pa_nil)))
  (pss_cons (ps_par3 (i := 7) (j := 8) (l := 9) rfl sc__law_names.nd rfl rfl rfl (by decide) (by decide) (by decide) rfl rfl rfl (pa_cons (C8.pe_c c_law_draw hr (by decide) (by rfl) (pa_cons (pv 0) (pa_cons (pe_callB (call_lenG (K := K)) (by rfl) T.b_len bt_len (pa_cons (pv 6) pa_nil)) pa_nil))) (pa_cons (C8.pe_c c_law_draw hr (by decide) (by rfl) (pa_cons (pv 0) (pa_cons pe_int pa_nil))) (pa_cons (C8.pe_c c_law_draw hr (by decide) (by rfl) (pa_cons (pv 0) (pa_cons pe_int pa_nil))) pa_nil))) rfl)
  (pss_cons (ps_par (i := 10) (j := 11) rfl sc__law_names.nd rfl rfl (by decide) rfl rfl (pa_cons (C8.pe_c c_law_pick hr (by decide) (by rfl) (pa_cons (pv 0) (pa_cons (pe_lst (pa_cons pe_int (pa_cons pe_int (pa_cons pe_int (pa_cons pe_int (pa_cons pe_int (pa_cons pe_int (pa_cons pe_int (pa_cons pe_int (pa_cons pe_int (pa_cons pe_int (pa_cons pe_int (pa_cons pe_int pa_nil))))))))))))) pa_nil))) (pa_cons (pe_lst pa_nil) pa_nil)) rfl)
  (pss_cons (ps_for PassesOwn.never rfl (pi_range1 rfl T.b_range (pa_cons (pv 1) pa_nil)) (pg_name (i := 5) sc__law_names.nd rfl (.inl rfl))
    (pss_cons (ps_set (i := 12) sc__law_names.nd rfl (.inl rfl) (pe_slice (sl_any (K := K)) (pe_slice (sl_any (K := K)) (pv 6) (po_some (pe_op (op_addG (K := K)) (pv 7) pe_int)) po_none) po_none (po_some (pe_ix (ixG (K := K)) (pe_lst (pa_cons pe_int (pa_cons (pe_op (op_mod) (pv 5) pe_int) pa_nil))) (pv 9) (fun _ _ => rfl)))))
  (pss_one (ps_expr (pe_bm PySem.F.plainAttrs_list PySem.F.slot_list_append PySem.F.type_list_append mt_append (pv 11) (pa_cons (pe_op (op_addG (K := K)) (pe_op (op_addG (K := K)) (pe_slice (sl_any (K := K)) (pv 6) po_none (po_some (pv 7))) (pe_ix (ixG (K := K)) (pv 4) (pe_op (op_mod) (pe_op (op_addG (K := K)) (pv 8) (pe_op (op_mulG (K := K)) (pv 10) (pv 5))) pe_int) (fun _ _ => rfl))) (pv 12)) pa_nil))))))
  (C8.pss_cut (ps_if (PW.pt (pw_and (pt_cmpR (op_gt) (pv 7) pe_int (nomark _)) (pw_and1 (pt_cmpR (op_eqX (K := K) hu6) (C8.pe_c c_law_draw hr (by decide) (by rfl) (pa_cons (pv 0) (pa_cons pe_int pa_nil))) pe_int (nomark _))))) (pss_one (ps_asg (pe_slice (sl_any (K := K)) (pv 6) po_none (po_some (pv 7))) (pg_sub (pv 11) (C8.pe_c c_law_draw hr (by decide) (by rfl) (pa_cons (pv 0) (pa_cons (pv 1) pa_nil))) set_list))) pss_nil)
  (pss_one (ps_ret (pv 11)))))))))), ?_⟩
    refine ⟨.ref p, rfl, p, qc, 7, n, rfl, hp, by omega, by decide, by decide, fun d H1 d0 d1 k1 p1 => ?_⟩
    refine .inl ⟨rfl, _, rfl, ite2 (fun e => ?_) (fun e => ?_)⟩
    · -- words
      refine ⟨by show 13 ≤ sizeLine; decide, fun a0 na0 => ?_⟩
      refine ⟨.ref p, rfl, p, qc, 18, n + 1, rfl, p1.same (same_new na0), by omega, by decide, by decide, fun t H3 t0 t1 k3 p3 => ?_⟩
      have e0 : H3 a0 = some (.lst (wordsA.map V.str)) := k3 _ _ (p1.off na0) upd_same
      refine ⟨.ref a0, rfl, by show 5 ≤ sizeLine; decide, fun a1 na1 => .inl ⟨a0, a1, wordsA.map V.str, wordsB.map V.str, rfl, rfl, same_new na1 _ _ e0, upd_same, by show 13 + 5 ≤ sizeLine; decide, fun a2 na2 => ?_⟩⟩
      refine ⟨a2, 2, _, rfl, rfl, upd_same, by decide, by decide, by show 18 * 2 ≤ sizeLine; decide, fun a3 na3 => ?_⟩
      refine ⟨.int t, rfl, t, rfl, .inl ⟨a3, _, rfl, .inl (.inl upd_same), fun a4 na4 => ?_⟩⟩
      refine ⟨.int many, rfl, many, rfl, .inl ⟨a4, _, rfl, .inl (.inl upd_same), fun a5 na5 => ?_⟩⟩
      have ok := wordsCut_ok (t := t.toNat) (m := many) (by omega) m2
      have s4 : Same H3 _ := ((((same_new (o := .lst (wordsB.map V.str)) na1).trans (same_new (o := .lst (wordsA.map V.str ++ wordsB.map V.str)) na2)).trans (same_new (o := .lst (List.replicate (2 : Int).toNat (wordsA.map V.str ++ wordsB.map V.str)).flatten) na3)).trans (same_new (o := .lst (cutV (List.replicate (2 : Int).toNat (wordsA.map V.str ++ wordsB.map V.str)).flatten (some t) none)) na4))
      have s5 : Same H3 (upd (upd (upd (upd (upd H3 a1 (.lst (wordsB.map V.str))) a2 (.lst (wordsA.map V.str ++ wordsB.map V.str))) a3 (.lst (List.replicate (2 : Int).toNat (wordsA.map V.str ++ wordsB.map V.str)).flatten)) a4 (.lst (cutV (List.replicate (2 : Int).toNat (wordsA.map V.str ++ wordsB.map V.str)).flatten (some t) none))) a5 (.lst (cutV (cutV (List.replicate (2 : Int).toNat (wordsA.map V.str ++ wordsB.map V.str)).flatten (some t) none) none (some many)))) :=
        s4.trans (same_new na5)
      have ew : cutV (cutV (List.replicate (2 : Int).toNat (wordsA.map V.str ++ wordsB.map V.str)).flatten (some t) none) none (some many) = (wordsCut t.toNat many).map V.str := by
        rw [cutV_from t0, cutV_to (by omega)]
        unfold wordsCut
        rw [List.map_take, List.map_drop, Int.toNat_natCast]
        rfl
      have of5 : a5 ≠ p := (p3.same s4).off na5
      have fr : H a5 = none := k1.free of5 ((same_new na0).free (k3.free of5 (s4.free na5)))
      refine q a5 _ _ ok.2.1 ok.1 ok.2.2 fr (by rw [← ew]; exact upd_same) of5 ?_ ?_
      · exact fun b o nb e => s5 _ _ (k3 _ _ nb (same_new na0 _ _ (k1 _ _ nb e)))
      · exact (p3.same s5).le (by omega)
    -- letters
    refine ⟨rfl, ?_⟩
    refine ⟨.ref p, rfl, p, qc, 8, n + 1, rfl, p1, by omega, by decide, by decide, fun d2 H2 d20 d21 k2 p2 => ?_⟩
    refine ⟨1 + d2, rfl, by omega, by omega, fun D nD => ?_⟩
    have ofD : D ≠ p := p2.off nD
    have zD : H D = none := k1.free ofD (k2.free ofD nD)
    refine lc_range (fun i G => ∃ cs : List Nat, cs.length = i ∧ (∀ c ∈ cs, 97 ≤ c ∧ c ≤ 122) ∧ G D = some (.lst (cs.map fun c => V.str (SX.S [c]))) ∧ Kp p H G ∧ Pen K G p qc (n + 2 + i)) ⟨[], rfl, by simp, upd_same, (k1.trans k2).new nD, p2.same (same_new nD)⟩ (fun i G hi pv => ?_) (fun G pv => ?_)
    · obtain ⟨cs, c1, c2, c3, c4, c5⟩ := pv
      have hi8 : i < 9 := by omega
      refine ⟨rfl, ?_⟩
      refine yes_if ?_
      refine ⟨.ref p, rfl, .str lettersZ, rfl, p, .str lettersZ, qc, n + 2 + i, _, rfl, c5, by omega, .inr ⟨lettersZ, rfl, by decide +kernel, rfl⟩, by decide +kernel, by decide +kernel, fun v G' hv k hp' => ?_⟩
      obtain ⟨ch, hch, rfl⟩ := List.mem_map.mp hv
      refine ⟨_, k _ _ ofD c3, by rw [List.length_map]; exact small1000000 (by omega), cs ++ [ch], by rw [List.length_append, c1]; rfl, ?_, ?_, ?_, hp'.wr hp zD⟩
      · intro c hc
        rcases List.mem_append.mp hc with hc | hc
        · exact c2 c hc
        · rw [List.mem_singleton.mp hc]
          exact letters_in ch hch
      · rw [upd_same, List.map_append]
        rfl
      · intro b o nb e
        have : b ≠ D := fun z => by rw [z, zD] at e; cases e
        rw [upd_ne this]
        exact k _ _ nb (c4 _ _ nb e)
    obtain ⟨bl, c1, c2, c3, c4, c5⟩ := pv
    have b1 : 1 ≤ bl.length := by omega
    have b8 : bl.length ≤ 8 := by omega
    refine ⟨"", D, bl.map fun c => SX.S [c], rfl, rfl, .inl (.inl (.inl (by rw [List.map_map]; exact c3))), ?_, ?_⟩
    · rw [List.map_map, List.length_map, show (("" : Str)).length = 0 from rfl, Nat.mul_zero]
      have := ones_sum bl
      show (bl.map fun c => (SX.S [c]).length).sum + 0 ≤ _
      omega
    have eb : Txt.join "" (bl.map fun c => SX.S [c]) = SX.S bl := by
      have := SX.join_S [] (bl.map fun c => [c])
      rw [List.map_map, joinL_ones] at this
      exact this
    rw [eb]
    have p5 : Pen K G p qc (n + 11) := c5.le (by omega)
    clear c5 p2 p1 k1 k2 nD
    have elen : (SX.S bl).length = bl.length := SX.S_len bl
    -- at, first, cut
    refine ⟨.ref p, rfl, .str (SX.S bl), rfl, by rw [elen, sizeLine_eq]; omega, ?_⟩
    refine ⟨p, qc, _, n + 11, rfl, p5, by omega, by rw [elen]; omega, by rw [elen]; omega, fun a H5 a0 a1 k5 p6 => ?_⟩
    rw [elen] at a1
    refine ⟨.ref p, rfl, p, qc, 26, n + 12, rfl, p6, by omega, by decide, by decide, fun fi H6 f0 f1 k6 p7 => ?_⟩
    refine ⟨.ref p, rfl, p, qc, 2, n + 13, rfl, p7, by omega, by decide, by decide, fun cu H7 u0 u1 k7 p8 => ?_⟩
    refine ⟨_, _, _, rfl, ?_⟩
    -- step, found
    have kA : Kp p H H7 := ((c4.trans k5).trans k6).trans k7
    clear k5 k6 k7 p5 p6 p7 c3 c4
    refine ⟨.ref p, rfl, by show 12 ≤ sizeLine; decide, fun l0 n0 => ?_⟩
    refine ⟨p, .ref l0, qc, n + 14, stepsL.map fun (s : Nat) => V.int (s : Int), rfl, p8.same (same_new n0), by omega, .inl ⟨l0, rfl, p8.off n0, .inl (.inl (.inl upd_same))⟩, by decide, by decide, fun v H9 hv k9 p9 => ?_⟩
    obtain ⟨sp, hsp, rfl⟩ := List.mem_map.mp hv
    refine ⟨Nat.zero_le _, fun lf nf => ⟨_, _, rfl, ?_⟩⟩
    have kB : Kp p H H9 := fun b o nb e => k9 _ _ nb (same_new n0 _ _ (kA _ _ nb e))
    have of' : lf ≠ p := p9.off nf
    have zf : H lf = none := kB.free of' nf
    have kC : Kp p H (upd H9 lf (.lst [])) := kB.new nf
    have pC := p9.same (same_new nf (o := .lst []))
    have eC : (upd H9 lf (.lst [])) lf = some (.lst []) := upd_same
    generalize upd H9 lf (.lst []) = HC at kC pC eC
    clear kA kB k9 p9 p8 n0 nf hv
    -- the names one by one
    obtain ⟨a', rfl⟩ := Int.eq_ofNat_of_zero_le a0
    obtain ⟨fi', rfl⟩ := Int.eq_ofNat_of_zero_le f0
    refine ⟨.int many, rfl, many, rfl, by omega, by omega, ?_⟩
    refine for_range (fun i σ G => ∃ d5 d12 : Option V, σ = [some (.ref p), some (.int many), none, none, some (.str lettersZ), d5, some (.str (SX.S bl)), some (.int (a' : Int)), some (.int (fi' : Int)), some (.int cu), some (.int (sp : Int)), some (.ref lf), d12] ∧ Kp p H G ∧ Pen K G p qc (n + 15) ∧ G lf = some (.lst ((List.range i).map fun k => V.str (SX.S (nmAt bl a' fi' sp k (mk cu k)))))) ⟨_, _, rfl, kC, pC.le (by omega), eC⟩ (fun i σ G hi pv => ?_) (fun σ G pv => ?_)
    · obtain ⟨d5, d12, rfl, g1, g2, g3⟩ := pv
      have hlen8 : (SX.S bl).length ≤ sizeLine := by rw [elen, sizeLine_eq]; omega
      have hI : i < 18 := by omega
      refine ⟨.str (SX.S bl), rfl, .int a', rfl, _, rfl, .inr (.inr ⟨SX.S bl, rfl, hlen8, ?_⟩)⟩
      rw [SX.slice_from (by omega), show ((a' : Int) + 1).toNat = a' + 1 by omega]
      refine ⟨.int (0 + i), rfl, _, 3, rfl, rfl, (by show (0 : Int) < 3; decide), by show 2 ≤ sizeLine; decide, fun l3 n3 => ?_⟩
      refine ⟨.int cu, rfl, .inl ⟨l3, _, cu, .int (mk cu i), rfl, rfl, .inl (.inl upd_same), mk_at u0 u1, _, rfl, .inr (.inr ⟨SX.S (bl.drop (a' + 1)), rfl, ?_, ?_⟩)⟩⟩
      · rw [SX.S_len, List.length_drop, sizeLine_eq]; omega
      rw [SX.slice_to (by omega), Int.toNat_natCast]
      have g3' := same_new (o := .lst [V.int 8, V.int ((0 + (i : Int)) % 3)]) n3 _ _ g3
      have g2' := g2.same (same_new (o := .lst [V.int 8, V.int ((0 + (i : Int)) % 3)]) n3)
      have g1' := g1.new (o := .lst [V.int 8, V.int ((0 + (i : Int)) % 3)]) n3
      have hs25 : sp ≤ 25 := steps_le hsp
      refine ⟨.ref lf, rfl, .inl ⟨rfl, _, .inl (.inl g3')⟩, ?_⟩
      refine ⟨.str (SX.S bl), rfl, .int a', rfl, _, rfl, .inr (.inr ⟨SX.S bl, rfl, hlen8, ?_⟩)⟩
      rw [SX.slice_to (by omega), Int.toNat_natCast]
      refine ⟨.str lettersZ, rfl, .int fi', rfl, .int sp, rfl, .int (0 + i), rfl, .inl ⟨by omega, by omega⟩, _, 26, rfl, rfl, (by show (0 : Int) < 26; decide), ?_⟩
      refine .inr (.inr ⟨lettersZ, _, 97 + (fi' + sp * i) % 26, rfl, rfl, by decide +kernel, ?_, ?_⟩)
      · refine at_in (j := (fi' + sp * i) % 26) ?_ (letters_at _ (Nat.mod_lt _ (by decide)))
        rw [Int.zero_add]
        push_cast
        rfl
      refine ⟨?_, .str (SX.S ((bl.drop (a' + 1)).take (mk cu i))), rfl, ?_, ?_⟩
      · show (SX.S (bl.take a')).length + (SX.S [97 + (fi' + sp * i) % 26]).length ≤ sizeLine
        rw [SX.S_len, SX.S_len, List.length_take, sizeLine_eq]
        show _ + 1 ≤ _
        omega
      · show (SX.S (bl.take a') ++ SX.S [97 + (fi' + sp * i) % 26]).length + (SX.S ((bl.drop (a' + 1)).take (mk cu i))).length ≤ sizeLine
        rw [SX.S_cat, SX.S_len, SX.S_len, List.length_append, List.length_take, List.length_take, List.length_drop, sizeLine_eq]
        show _ + 1 + _ ≤ _
        omega
      refine ⟨lf, _, _, rfl, rfl, g3', ?_, ?_⟩
      · rw [List.length_map, List.length_range]; exact small1000000 (by omega)
      refine ⟨_, _, rfl, ?_, g2'.wr hp zf, ?_⟩
      · intro b o nb e
        have : b ≠ lf := fun z => by rw [z, zf] at e; cases e
        rw [upd_ne this]
        exact g1' _ _ nb e
      · rw [upd_same, List.range_succ, List.map_append]
        have e : SX.S (bl.take a') ++ SX.S [97 + (fi' + sp * i) % 26] ++ SX.S ((bl.drop (a' + 1)).take (mk cu i)) = SX.S (nmAt bl a' fi' sp i (mk cu i)) := by
          rw [SX.S_cat, SX.S_cat]
          unfold nmAt
          rw [List.append_assoc]
          rfl
        exact congrArg (fun z => some (HO.lst (_ ++ [V.str z]))) e
    obtain ⟨d5, d12, rfl, g1, g2, g3⟩ := pv
    rw [Int.toNat_natCast] at g3
    have good : ∃ xs : List Str, xs.length = many ∧ xs.Nodup ∧ (∀ x ∈ xs, NameOk x) ∧ (∀ x ∈ xs, a' + 1 ≤ x.length) ∧ G lf = some (.lst (xs.map V.str)) := by
      refine ⟨(List.range many).map fun k => SX.S (nmAt bl a' fi' sp k (mk cu k)), by rw [List.length_map, List.length_range], ?_, ?_, ?_, by rw [List.map_map]; exact g3⟩
      · refine nodup_range fun i j hi hj e => ?_
        exact nmAt_inj (by omega) hsp (by omega) (by omega) (SX.S_inj e)
      · intro x hx
        obtain ⟨k, _, rfl⟩ := List.mem_map.mp hx
        exact name_S (nmAt_name (by omega) b8 c2)
      · intro x hx
        obtain ⟨k, _, rfl⟩ := List.mem_map.mp hx
        rw [SX.S_len]
        exact (nmAt_len (by omega)).1
    clear g3
    obtain ⟨xs, x1, x2, x3, x4, x5⟩ := good
    refine ⟨fun σ G' => ∃ (d5 d12 : Option V) (ys : List Str), σ = [some (.ref p), some (.int many), none, none, some (.str lettersZ), d5, some (.str (SX.S bl)), some (.int (a' : Int)), some (.int (fi' : Int)), some (.int cu), some (.int (sp : Int)), some (.ref lf), d12] ∧ Kp p H G' ∧ Pen K G' p qc (n + 20) ∧ ys.length = many ∧ ys.Nodup ∧ (∀ x ∈ ys, NameOk x) ∧ G' lf = some (.lst (ys.map V.str)), ?_, ?_⟩
    · refine ⟨.int a', rfl, _, 0, rfl, rfl, _, rfl, ite2 (fun e1 => ?_) (fun e1 => iteF ⟨_, _, xs, rfl, g1, g2.le (by omega), x1, x2, x3, x5⟩)⟩
      have e3 := of_decide_eq_true e1
      refine ⟨.ref p, rfl, p, qc, 3, n + 15, rfl, g2, by omega, by decide, by decide, fun d3 G3 d30 d31 k3 p3 => .inl ⟨rfl, _, rfl, ite2 (fun e2 => ?_) (fun e2 => ⟨_, _, xs, rfl, g1.trans k3, p3.le (by omega), x1, x2, x3, k3 _ _ of' x5⟩)⟩⟩
      refine ⟨.str (SX.S bl), rfl, .int a', rfl, _, rfl, .inr (.inr ⟨SX.S bl, rfl, by rw [elen, sizeLine_eq]; omega, ?_⟩)⟩
      rw [SX.slice_to (by omega), Int.toNat_natCast]
      refine ⟨.ref lf, rfl, .ref p, rfl, .int many, rfl, p, qc, many, n + 16, rfl, p3, by omega, by omega, by omega, fun d4 G4 d40 d41 k4 p4 => ?_⟩
      have x6 := k4 _ _ of' (k3 _ _ of' x5)
      refine ⟨lf, _, d4, d4.toNat, rfl, rfl, x6, ?_, ?_⟩
      · rw [List.length_map, x1]
        unfold ixN
        rw [if_pos d40, if_pos d41]
      have hn1 : IsName (bl.take a') := by
        refine ⟨by rw [List.length_take]; omega, by rw [List.length_take]; omega, fun c hc => c2 _ (List.mem_of_mem_take hc)⟩
      have hn2 : SX.S (bl.take a') ∉ xs := fun hm => by
        have := x4 _ hm
        rw [SX.S_len, List.length_take] at this
        omega
      refine ⟨_, _, xs.set d4.toNat (SX.S (bl.take a')), rfl, ?_, ?_, by rw [List.length_set]; exact x1, nodup_set x2 hn2, ?_, ?_⟩
      · intro b o nb e
        have : b ≠ lf := fun z => by rw [z, zf] at e; cases e
        rw [upd_ne this]
        exact k4 _ _ nb (k3 _ _ nb (g1 _ _ nb e))
      · exact (p4.wr hp zf).le (by omega)
      · intro x hx
        rcases List.mem_or_eq_of_mem_set hx with hx | rfl
        · exact x3 _ hx
        · exact name_S hn1
      · rw [upd_same, List.map_set]
    · rintro σ' G' ⟨d5, d12, ys, rfl, h1, h2, h3, h4, h5, h6⟩
      exact ⟨.ref lf, rfl, q lf ys G' h3 h4 h5 zf h6 of' h1 h2⟩
end
end Wd

set_option Elab.async false
set_option linter.all false
set_option maxRecDepth 100000
set_option maxHeartbeats 4000000
/-! Halls as plain data. -/
namespace Wd
open PySem PySem.Spec PyProof.Rows L2
/-- a row: the room, the least, the most if there is one -/
structure RowH where
  room : Str
  least : Int
  most : Option Int
def RowH.ok (r : RowH) : Prop := 0 ≤ r.least ∧ r.least ≤ 9999999 ∧ ∀ m, r.most = some m → r.least ≤ m ∧ m ≤ 9999999
def RowH.data (r : RowH) : PyData := .tuple [.str r.room, .int r.least, r.most.elim .none .int]
def optV (m : Option Int) : V := m.elim .non .int
def rowsData (rs : List RowH) : PyData := .tuple (rs.map RowH.data)
structure RowsOk (rooms : List Str) (rs : List RowH) : Prop where
  sub : (rs.map RowH.room).Sublist rooms
  few : rs.length ≤ 4
  each : ∀ r ∈ rs, r.ok
theorem dq_row {N : Addr → Prop} {K : PySem.W.Frag} {H : Hp} {a : Addr} {r : RowH} (n : N a) (e : SqT K H a [.str r.room, .int r.least, optV r.most]) : Dq N K H (.ref a) r.data := by
  refine .tup n e (.cons (.str _) (.cons (.int _) (.cons ?_ .nil)))
  cases r.most with
  | none => exact .non
  | some m => exact .int m
theorem depth_opt (m : Option Int) : (m.elim PyData.none PyData.int).depth = 0 := by
  cases m <;> rfl
theorem plain_row {r : RowH} (h : PyData.strOk r.room = true) : Plain r.data := by
  refine ⟨?_, ?_, ?_⟩
  · cases e : r.most <;> simp [RowH.data, e, PyData.hasDict, PyData.hasDictAll]
  · cases e : r.most <;> simp [RowH.data, e, PyData.canLay0, PyData.canLayAll0, h]
  · cases e : r.most <;> simp [RowH.data, e, PyData.depth, PyData.depthAll]
/-- a door -/
structure DoorH where
  name : Str
  one : Str
  other : Str
  way : Str
  rows : List RowH
def DoorH.data (d : DoorH) : PyData := .tuple [.str d.one, .str d.other, .str d.way, rowsData d.rows]
structure WalkH where
  name : Str
  heft : Int
  hands : Int
def WalkH.data (x : WalkH) : PyData := .tuple [.str x.name, .int x.heft, .int x.hands]
def WalkH.ok (x : WalkH) : Prop := 0 ≤ x.heft ∧ x.heft ≤ 9999999 ∧ (x.hands = 0 ∨ x.hands = 1 ∨ x.hands = 2 ∨ x.hands = 3 ∨ x.hands = 9)
structure HallH where
  rooms : List Str
  doors : List DoorH
  stones : List (Str × Int)
  walkers : List WalkH
structure DoorOk (rooms : List Str) (d : DoorH) : Prop where
  one : d.one ∈ rooms
  other : d.other ∈ rooms
  apart : d.one ≠ d.other
  way : (d.way = "both" ∧ sortedS [d.one, d.other] = true) ∨ d.way = "on"
  rows : RowsOk rooms d.rows
def HallH.names (h : HallH) : List Str := h.rooms ++ (h.walkers.map WalkH.name ++ (h.stones.map Prod.fst ++ h.doors.map DoorH.name))
structure HallOk (sr sd ss sw : Nat) (h : HallH) : Prop where
  r1 : 1 ≤ h.rooms.length
  r2 : h.rooms.length ≤ sr
  r3 : sortedS h.rooms = true
  d0 : h.rooms.length = 1 → h.doors = []
  d2 : h.doors.length ≤ sd
  d3 : sortedS (h.doors.map DoorH.name) = true
  d4 : ∀ d ∈ h.doors, DoorOk h.rooms d
  s2 : h.stones.length ≤ ss
  s3 : sortedS (h.stones.map Prod.fst) = true
  s4 : ∀ s ∈ h.stones, 0 ≤ s.2 ∧ s.2 ≤ 9999999
  w1 : 1 ≤ h.walkers.length
  w2 : h.walkers.length ≤ sw
  w3 : ∀ x ∈ h.walkers, x.ok
  n1 : h.names.Nodup
  n2 : ∀ x ∈ h.names, NameOk x
def doorsKv (ds : List DoorH) : List (PyData × PyData) := ds.map fun d => (.str d.name, d.data)
def stonesKv (ss : List (Str × Int)) : List (Key × V) := ss.map fun s => (.inr s.1, .int s.2)
/-- a hall as the law's dict -/
def HallAt (N : Addr → Prop) (K : PySem.W.Frag) (H : Hp) (h : Addr) (x : HallH) : Prop := ∃ (d s w r : Addr) (dkv : List (Key × V)) (wvs : List V), N h ∧ N d ∧ N s ∧ N w ∧ N r ∧
  H h = some (.dK [(.inr "doors", .ref d), (.inr "stones", .ref s), (.inr "walkers", .ref w), (.inr "rooms", .ref r)]) ∧
  H d = some (.dK dkv) ∧ DqKv N K H dkv (doorsKv x.doors) ∧ H s = some (.dK (stonesKv x.stones)) ∧ H w = some (.lst wvs) ∧ DqAll N K H wvs (x.walkers.map WalkH.data) ∧ H r = some (.lst (x.rooms.map V.str))
theorem HallAt.move {N N' : Addr → Prop} {K : PySem.W.Frag} {H H' : Hp} {h : Addr} {x : HallH} (n : ∀ a, N a → N' a) (s : ∀ a o, N a → H a = some o → H' a = some o) (hh : HallAt N K H h x) : HallAt N' K H' h x := by
  obtain ⟨d, st, w, r, dkv, wvs, n1, n2, n3, n4, n5, h1, h2, h3, h4, h5, h6, h7⟩ := hh
  exact ⟨d, st, w, r, dkv, wvs, n _ n1, n _ n2, n _ n3, n _ n4, n _ n5, s _ _ n1 h1, s _ _ n2 h2, DqKv.move n s _ _ h3, s _ _ n3 h4, s _ _ n4 h5, DqAll.move n s _ _ h6, s _ _ n5 h7⟩
theorem valV_off {k : Key} : ∀ {kvs : List (Key × V)}, k ∉ kvs.map (·.1) → valV kvs k = none
  | [], _ => rfl
  | x :: r, h => by
    rw [valV_neg (fun e => h (by rw [← e]; exact List.mem_cons_self)), valV_off fun m => h (List.mem_cons_of_mem _ m)]
theorem stonesKv_keys (ss : List (Str × Int)) : (stonesKv ss).map (·.1) = (ss.map Prod.fst).map Sum.inr := by
  unfold stonesKv
  rw [List.map_map, List.map_map]
  rfl
theorem not_in_take {xs : List Str} (h : xs.Nodup) {i : Nat} (hi : i < xs.length) : xs[i] ∉ xs.take i := by
  intro m
  have e : xs.take (i + 1) = xs.take i ++ [xs[i]] := by rw [List.take_add_one, List.getElem?_eq_getElem hi]; rfl
  have n := h.sublist (List.take_sublist (i + 1) xs)
  rw [e] at n
  exact (List.nodup_append.mp n).2.2 _ m _ List.mem_cons_self rfl
theorem inr_in {x : Str} {xs : List Str} (h : (Sum.inr x : Key) ∈ xs.map Sum.inr) : x ∈ xs := by
  obtain ⟨y, hy, e⟩ := List.mem_map.mp h
  exact (Sum.inr.inj e) ▸ hy
theorem walk_inv {N : Addr → Prop} {K : PySem.W.Frag} {H : Hp} {v : V} {x : WalkH} (h : Dq N K H v x.data) : ∃ a, v = .ref a ∧ N a ∧ SqT K H a [.str x.name, .int x.heft, .int x.hands] := by
  cases h with
  | tup n e d =>
    cases d with
    | cons h1 d =>
      cases d with
      | cons h2 d =>
        cases d with
        | cons h3 d =>
          cases d
          cases h1
          cases h2
          cases h3
          exact ⟨_, rfl, n, e⟩
theorem DqAll.get {N : Addr → Prop} {K : PySem.W.Frag} {H : Hp} : ∀ {vs : List V} {ds : List PyData} {i : Nat} {v : V}, DqAll N K H vs ds → vs[i]? = some v → ∃ d, ds[i]? = some d ∧ Dq N K H v d
  | _, _, 0, v, .cons h _, e => by
    cases e
    exact ⟨_, rfl, h⟩
  | _, _, i + 1, v, .cons _ r, e => DqAll.get (i := i) r e
/-- what is no dict -/
def NoDk (o : HO) : Prop := ∀ kvs, o ≠ .dK kvs
section
variable {N N' : Addr → Prop} {K : PySem.W.Frag} {H H' : Hp}
theorem sqLD {a : Addr} {xs : List V} (s : ∀ o, NoDk o → H a = some o → H' a = some o) (h : SqL K H a xs) : SqL K H' a xs := by
  rcases h with (h | ⟨o, h⟩) | h
  · exact .inl (.inl (s _ (fun _ z => by cases z) h))
  · exact .inl (.inr ⟨o, s _ (fun _ z => by cases z) h⟩)
  · exact .inr h
theorem sqTD {a : Addr} {xs : List V} (s : ∀ o, NoDk o → H a = some o → H' a = some o) (h : SqT K H a xs) : SqT K H' a xs := by
  rcases h with (h | ⟨o, h⟩) | h
  · exact .inl (.inl (s _ (fun _ z => by cases z) h))
  · exact .inl (.inr ⟨o, s _ (fun _ z => by cases z) h⟩)
  · exact .inr h
mutual
theorem Dq.moveD (n : ∀ a, N a → N' a) (s : ∀ a o, N a → NoDk o → H a = some o → H' a = some o) : ∀ (d : PyData) (v : V), d.hasDict = false → Dq N K H v d → Dq N' K H' v d
  | .none, _, _, h => by cases h; exact .non
  | .bool b, _, _, h => by cases h; exact .bl b
  | .int i, _, _, h => by cases h; exact .int i
  | .str x, _, _, h => by cases h; exact .str x
  | .list ds, _, f, h => by
    cases h with
    | lst z hq ha => exact .lst (n _ z) (sqLD (fun o => s _ o z) hq) (DqAll.moveD n s ds _ (by simpa [PyData.hasDict] using f) ha)
  | .tuple ds, _, f, h => by
    cases h with
    | tup z hq ha => exact .tup (n _ z) (sqTD (fun o => s _ o z) hq) (DqAll.moveD n s ds _ (by simpa [PyData.hasDict] using f) ha)
  | .dict ds, _, f, _ => by simp [PyData.hasDict] at f
theorem DqAll.moveD (n : ∀ a, N a → N' a) (s : ∀ a o, N a → NoDk o → H a = some o → H' a = some o) : ∀ (ds : List PyData) (vs : List V), PyData.hasDictAll ds = false → DqAll N K H vs ds → DqAll N' K H' vs ds
  | [], _, _, h => by cases h; exact .nil
  | d :: ds, _, f, h => by
    have f' : d.hasDict = false ∧ PyData.hasDictAll ds = false := by simpa [PyData.hasDictAll] using f
    cases h with
    | cons h1 h2 => exact .cons (Dq.moveD n s d _ f'.1 h1) (DqAll.moveD n s ds _ f'.2 h2)
end
theorem walks_noDict : ∀ ws : List WalkH, PyData.hasDictAll (ws.map WalkH.data) = false
  | [] => rfl
  | x :: r => by
    rw [List.map_cons]
    simp only [PyData.hasDictAll, walks_noDict r, Bool.or_false]
    rfl
theorem rows_noDict : ∀ rs : List RowH, PyData.hasDictAll (rs.map RowH.data) = false
  | [] => rfl
  | x :: r => by
    rw [List.map_cons]
    simp only [PyData.hasDictAll, rows_noDict r, Bool.or_false]
    cases e : x.most <;> simp [RowH.data, e, PyData.hasDict, PyData.hasDictAll]
theorem door_noDict (d : DoorH) : d.data.hasDict = false := by
  simp only [DoorH.data, rowsData, PyData.hasDict, PyData.hasDictAll, rows_noDict, Bool.or_false]
theorem DqKv.moveD (n : ∀ a, N a → N' a) (s : ∀ a o, N a → NoDk o → H a = some o → H' a = some o) : ∀ (ds : List DoorH) (kvs : List (Key × V)), DqKv N K H kvs (doorsKv ds) → DqKv N' K H' kvs (doorsKv ds)
  | [], _, h => by cases h; exact .nil
  | d :: ds, kvs, h => by
    have e : doorsKv (d :: ds) = (.str d.name, d.data) :: doorsKv ds := rfl
    rw [e] at h ⊢
    generalize hx : PyData.str d.name = x at h ⊢
    cases h with
    | cons h1 h2 => exact .cons (Dq.moveD n s _ _ (door_noDict d) h1) (DqKv.moveD n s ds _ h2)
theorem DqKv.snoc {k : Key} {v : V} {d : PyData} : ∀ {kvs : List (Key × V)} {ds : List (PyData × PyData)}, DqKv N K H kvs ds → Dq N K H v d → DqKv N K H (kvs ++ [(k, v)]) (ds ++ [(keyD k, d)])
  | _, _, .nil, x => .cons x .nil
  | _, _, .cons a r, x => .cons a (DqKv.snoc r x)
theorem DqKv.keys : ∀ {kvs : List (Key × V)} {ds : List (PyData × PyData)}, DqKv N K H kvs ds → ds.map Prod.fst = kvs.map fun z => keyD z.1
  | _, _, .nil => rfl
  | _, _, .cons _ r => by
    rw [List.map_cons, List.map_cons, DqKv.keys r]
end
theorem doors_fresh {N : Addr → Prop} {K : PySem.W.Frag} {H : Hp} {kvs : List (Key × V)} {ds : List DoorH} {nm : Str} (h : DqKv N K H kvs (doorsKv ds)) (n : nm ∉ ds.map DoorH.name) : valV kvs (.inr nm) = none := by
  refine valV_off fun m => n ?_
  have e := h.keys
  obtain ⟨z, hz, ez⟩ := List.mem_map.mp m
  have m2 : keyD z.1 ∈ (doorsKv ds).map Prod.fst := by
    rw [e]
    exact List.mem_map.mpr ⟨z, hz, rfl⟩
  rw [ez] at m2
  unfold doorsKv at m2
  rw [List.map_map] at m2
  obtain ⟨d, hd, ed⟩ := List.mem_map.mp m2
  have : PyData.str d.name = PyData.str nm := ed
  cases this
  exact List.mem_map.mpr ⟨d, hd, rfl⟩
theorem two_of {x y : Str} {ys : List Str} (h : ys.Perm [x, y]) : ∃ a b, ys = [a, b] ∧ ((a = x ∧ b = y) ∨ (a = y ∧ b = x)) := by
  have l := h.length_eq
  match ys, l with
  | [a, b], _ =>
    have m : a ∈ [x, y] := h.subset List.mem_cons_self
    refine ⟨a, b, rfl, ?_⟩
    rcases List.mem_cons.mp m with rfl | m
    · have := (List.perm_cons a).mp h
      have := List.perm_singleton.mp this
      exact .inl ⟨rfl, by injection this⟩
    · have e := List.mem_singleton.mp m
      subst e
      have h2 : [a, b].Perm [a, x] := h.trans (List.Perm.swap _ _ _)
      have := List.perm_singleton.mp ((List.perm_cons a).mp h2)
      exact .inr ⟨rfl, by injection this⟩
/-- parts of a list of unlike names -/
theorem cut4 {names A B C D : List Str} {sr sw ss a b c d : Nat} (nd : names.Nodup) (ha : A.Perm (names.take a)) (al : a ≤ sr) (hb : B.Perm ((names.drop sr).take b)) (bl : b ≤ sw) (hc : C.Perm (((names.drop sr).drop sw).take c)) (cl : c ≤ ss)
    (hd : D.Perm ((((names.drop sr).drop sw).drop ss).take d)) : (A ++ (B ++ (C ++ D))).Nodup ∧ ∀ x ∈ A ++ (B ++ (C ++ D)), x ∈ names := by
  have sub : (names.take a ++ ((names.drop sr).take b ++ (((names.drop sr).drop sw).take c ++ (((names.drop sr).drop sw).drop ss).take d))).Sublist names := by
    have e1 : names = names.take sr ++ names.drop sr := (List.take_append_drop sr names).symm
    have e2 : names.drop sr = (names.drop sr).take sw ++ (names.drop sr).drop sw := (List.take_append_drop sw _).symm
    have e3 : (names.drop sr).drop sw = ((names.drop sr).drop sw).take ss ++ ((names.drop sr).drop sw).drop ss := (List.take_append_drop ss _).symm
    have s3 : (((names.drop sr).drop sw).take c ++ (((names.drop sr).drop sw).drop ss).take d).Sublist ((names.drop sr).drop sw) := by
      conv => rhs; rw [e3]
      exact (List.take_sublist_take_left cl).append (List.take_sublist _ _)
    have s2 : ((names.drop sr).take b ++ (((names.drop sr).drop sw).take c ++ (((names.drop sr).drop sw).drop ss).take d)).Sublist (names.drop sr) := by
      conv => rhs; rw [e2]
      exact (List.take_sublist_take_left bl).append s3
    conv => rhs; rw [e1]
    exact (List.take_sublist_take_left al).append s2
  have pm : (A ++ (B ++ (C ++ D))).Perm (names.take a ++ ((names.drop sr).take b ++ (((names.drop sr).drop sw).take c ++ (((names.drop sr).drop sw).drop ss).take d))) := ha.append (hb.append (hc.append hd))
  exact ⟨pm.nodup_iff.mpr (nd.sublist sub), fun x hx => sub.subset (pm.subset hx)⟩
end Wd

set_option Elab.async false
set_option linter.all false
set_option maxRecDepth 100000
set_option maxHeartbeats 4000000
namespace Wd
open PySem PySem.Spec PyProof.Rows L2
abbrev s__law_rows : Stmt := topS 25
theorem sc__law_rows : FnScope ["pen", "rooms", "hefts", "found", "room", "least", "top"] ["pen", "rooms", "hefts"] (C8.fnScope s__law_rows) := ⟨rfl, rfl, rfl, by decide +kernel, rfl, by decide +kernel, by decide +kernel⟩
section
variable {P : Program} {w : World} {K : PySem.W.Frag} {mg : Str → Option Value} {base : Heap}
theorem sum_pos : ∀ {hs : List Int}, (∀ h ∈ hs, 0 ≤ h ∧ h ≤ 9999999) → 0 ≤ hs.sum
  | [], _ => by simp
  | h :: r, a => by
    have h1 := (a h List.mem_cons_self).1
    have h2 := sum_pos (hs := r) fun x m => a x (List.mem_cons_of_mem _ m)
    rw [List.sum_cons]
    omega
theorem pick_int {hs : List Int} {v : V} (a : ∀ h ∈ hs, 0 ≤ h ∧ h ≤ 9999999) (m : v ∈ [0, 1, 2, 3].map V.int ++ hs.map V.int ++ [V.int (hs.take 2).sum, V.int hs.sum]) : ∃ y : Int, 0 ≤ y ∧ v = .int y := by
  rcases List.mem_append.mp m with m | m
  · rcases List.mem_append.mp m with m | m
    · obtain ⟨y, hy, rfl⟩ := List.mem_map.mp m
      refine ⟨y, ?_, rfl⟩
      simp at hy
      omega
    · obtain ⟨y, hy, rfl⟩ := List.mem_map.mp m
      exact ⟨y, (a y hy).1, rfl⟩
  · rcases List.mem_cons.mp m with rfl | m
    · exact ⟨_, sum_pos fun h x => a h (List.mem_of_mem_take x), rfl⟩
    · rw [List.mem_singleton.mp m]
      exact ⟨_, sum_pos a, rfl⟩
theorem at_three (z : Int) {d : Int} (h0 : 0 ≤ d) (h1 : d < 3) : ∃ m : Option Int, atI [V.non, V.non, V.int z] d = some (optV m) ∧ ∀ m', m = some m' → m' = z := by
  have h : d = 0 ∨ d = 1 ∨ d = 2 := by omega
  rcases h with rfl | rfl | rfl
  · exact ⟨none, rfl, fun _ e => by cases e⟩
  · exact ⟨none, rfl, fun _ e => by cases e⟩
  · exact ⟨some z, rfl, fun _ e => (Option.some.inj e).symm⟩
theorem sq_kp {H H' : Hp} {p a : Addr} {xs : List V} (k : Kp p H H') (ne : a ≠ p) (h : SqL K H a xs) : SqL K H' a xs := by
  rcases h with (h | ⟨u, h⟩) | h
  · exact .inl (.inl (k _ _ ne h))
  · exact .inl (.inr ⟨u, k _ _ ne h⟩)
  · exact .inr h
/-- the pen, and a list of data that grows -/
def RB (K : PySem.W.Frag) (H G : Hp) (p : Addr) (qc : Addr × List Int) (lf : Addr) (n : Nat) (vs : List V) (ds : List PyData) : Prop := Kp p H G ∧ Pen K G p qc n ∧ G lf = some (.lst vs) ∧ DqAll (fun x => x ≠ p ∧ x ≠ lf) K G vs ds
theorem RB.new {H G : Hp} {p l lf : Addr} {qc : Addr × List Int} {n : Nat} {vs : List V} {ds : List PyData} {o : HO} (r : RB K H G p qc lf n vs ds) (of' : lf ≠ p) (nl : G l = none) : RB K H (upd G l o) p qc lf n vs ds :=
  ⟨r.1.new nl, r.2.1.same (same_new nl), same_new nl _ _ r.2.2.1, r.2.2.2.mono (same_new nl)⟩
theorem RB.kp {H G G' : Hp} {p lf : Addr} {qc : Addr × List Int} {n m : Nat} {vs : List V} {ds : List PyData} (r : RB K H G p qc lf n vs ds) (of' : lf ≠ p) (k : Kp p G G') (hp : Pen K G' p qc m) : RB K H G' p qc lf m vs ds :=
  ⟨r.1.trans k, hp, k _ _ of' r.2.2.1, r.2.2.2.move (fun _ z => z) fun a o z e => k a o z.1 e⟩
def spRows (K : PySem.W.Frag) : Sp := fun vs H Q _ => ∃ (p a b : Addr) (qc : Addr × List Int) (n : Nat) (rooms : List Str) (hefts : List Int), vs = [.ref p, .ref a, .ref b] ∧ Pen K H p qc n ∧ n + 4 * rooms.length < 1000000 ∧ rooms.length ≤ 40 ∧ hefts.length ≤ 40 ∧
  a ≠ p ∧ SqL K H a (rooms.map V.str) ∧ b ≠ p ∧ H b = some (.lst (hefts.map V.int)) ∧ (∀ h ∈ hefts, 0 ≤ h ∧ h ≤ 9999999) ∧
  ∀ (t : Addr) (rs : List RowH) (H' : Hp), RowsOk rooms rs → Kp p H H' → Pen K H' p qc (n + 4 * rooms.length) → H t = none → Dq (· ≠ p) K H' (.ref t) (rowsData rs) → Q (.ref t) H'
theorem c_rows {c : CA} (T : Txt P w K mg base c) (c_law_draw : C8.Cal P w K mg base 1 "_law_draw" (spDraw K) []) (c_law_pick : C8.Cal P w K mg base 2 "_law_pick" (spPick K) []) {f : Addr} {fd : FuncData} (F : C8.Def K mg "_law_rows" s__law_rows f fd) (b : Binds K fd ["pen", "rooms", "hefts"] []) : C8.Cal P w K mg base 3 "_law_rows" (spRows K) [] := by
  refine C8.cal0 F b .nil sc__law_rows (fun vs H Q E h => ?_) (fun cdv A outer s H vs Q E hr h => ?_)
  · obtain ⟨p, a, b, qc, n, rooms, hefts, rfl, _⟩ := h
    rfl
  · obtain ⟨p, a, b, qc, n, rooms, hefts, rfl, hp, hn, r40, h40, ap, ha, bp, hb, hh, q⟩ := h
    have hu := hu_of hr
    have hu6 := hu64 hr
    refine ⟨_, (pss_cons (ps_set (i := 3) sc__law_rows.nd rfl (.inl rfl) (pe_lst pa_nil))
  (pss_cons (ps_for PassesOwn.never rfl (pi_listK (K := K) (pv 1)) (pg_name (i := 4) sc__law_rows.nd rfl (.inl rfl))
    (pss_one (ps_if (PW.pt (pw_and (pt_cmpR (op_lt) (pe_callB (call_lenG (K := K)) (by rfl) T.b_len bt_len (pa_cons (pv 3) pa_nil)) pe_int (nomark _)) (pw_and1 (pt_cmpR (op_eqX (K := K) hu6) (C8.pe_c c_law_draw hr (by decide) (by rfl) (pa_cons (pv 0) (pa_cons pe_int pa_nil))) pe_int (nomark _))))) (pss_cons (ps_set (i := 5) sc__law_rows.nd rfl (.inl rfl) (pe_callB (call_min2 rfl) (by rfl) T.b_min bt_min (pa_cons pe_int (pa_cons (C8.pe_c c_law_pick hr (by decide) (by rfl) (pa_cons (pv 0) (pa_cons (pe_op (op_addG (K := K)) (pe_op (op_addG (K := K)) (pe_lst (pa_cons pe_int (pa_cons pe_int (pa_cons pe_int (pa_cons pe_int pa_nil))))) (pv 2)) (pe_lst (pa_cons (pe_callB (cr_sum rfl) (by rfl) T.b_sum bt_sum (pa_cons (pe_slice (sl_any (K := K)) (pv 2) po_none (po_some pe_int)) pa_nil)) (pa_cons (pe_callB (cr_sum rfl) (by rfl) T.b_sum bt_sum (pa_cons (pv 2) pa_nil)) pa_nil)))) pa_nil))) pa_nil))))
  (pss_cons (ps_set (i := 6) sc__law_rows.nd rfl (.inl rfl) (pe_ix (ixG (K := K)) (pe_lst (pa_cons pe_non (pa_cons pe_non (pa_cons (pe_callB (call_min2 rfl) (by rfl) T.b_min bt_min (pa_cons pe_int (pa_cons (pe_op (op_addG (K := K)) (pv 5) (C8.pe_c c_law_draw hr (by decide) (by rfl) (pa_cons (pv 0) (pa_cons pe_int pa_nil)))) pa_nil))) pa_nil)))) (C8.pe_c c_law_draw hr (by decide) (by rfl) (pa_cons (pv 0) (pa_cons pe_int pa_nil))) (fun _ _ => rfl)))
  (pss_one (ps_expr (pe_bm PySem.F.plainAttrs_list PySem.F.slot_list_append PySem.F.type_list_append mt_append (pv 3) (pa_cons (pe_tup (pa_cons (pv 4) (pa_cons (pv 5) (pa_cons (pv 6) pa_nil)))) pa_nil)))))) pss_nil)))
  (pss_one (ps_ret (pe_tupleOf (by rfl) T.b_tuple (pv 3)))))), ?_⟩
    refine ⟨Nat.zero_le _, fun lf nf => ?_⟩
    have of' := hp.off nf
    have zf := nf
    have p0 := hp.same (same_new nf (o := .lst []))
    have k0 : Kp p H (upd H lf (.lst [])) := (Kp.refl p H).new nf
    have e0 : (upd H lf (.lst [])) lf = some (.lst []) := upd_same
    generalize upd H lf (.lst []) = H0 at p0 k0 e0
    have r0 : RB K H H0 p qc lf n [] [] := ⟨k0, p0, e0, .nil⟩
    clear k0 p0 e0 nf
    refine ⟨.ref a, rfl, ?_⟩
    refine ⟨a, rfl, ⟨_, sq_kp r0.1 ap ha⟩, ?_⟩
    refine for_list (a := a) (xs := rooms.map V.str) (fun i σ G => ∃ (d4 d5 d6 : Option V) (rs : List RowH) (vs : List V), σ = [some (.ref p), some (.ref a), some (.ref b), some (.ref lf), d4, d5, d6] ∧ RB K H G p qc lf (n + 4 * i) vs (rs.map RowH.data) ∧ (rs.map RowH.room).Sublist (rooms.take i) ∧ rs.length ≤ 4 ∧ ∀ r ∈ rs, r.ok) ⟨_, _, _, [], [], rfl, r0, .slnil, Nat.zero_le _, by simp⟩ (fun i σ G _ pv => ?_) (fun i x σ G hx pv => ?_) (fun σ G pv => ?_)
    · obtain ⟨d4, d5, d6, rs, vs, rfl, rb, s1, s2, s3⟩ := pv
      exact sq_kp rb.1 ap ha
    · obtain ⟨d4, d5, d6, rs, vs, rfl, rb, s1, s2, s3⟩ := pv
      rw [List.getElem?_map] at hx
      obtain ⟨room, hroom, rfl⟩ := Option.map_eq_some_iff.mp hx
      have hiR : i < rooms.length := (List.getElem?_eq_some_iff.mp hroom).1
      have vl : vs.length = rs.length := by rw [rb.2.2.2.length, List.length_map]
      have stay : ∀ G' m, RB K H G' p qc lf m vs (rs.map RowH.data) → m ≤ n + 4 * (i + 1) → RB K H G' p qc lf (n + 4 * (i + 1)) vs (rs.map RowH.data) := fun G' m z l => ⟨z.1, z.2.1.le l, z.2.2⟩
      have sub' : (rs.map RowH.room).Sublist (rooms.take (i + 1)) := s1.trans (List.take_sublist_take_left (Nat.le_succ i))
      refine ⟨.ref lf, rfl, .inl ⟨vs, .inl (.inl (.inl rb.2.2.1)), _, 4, rfl, rfl, _, rfl, ite2 (fun e1 => ?_) (fun e1 => iteF ⟨_, _, _, rs, vs, rfl, stay _ _ rb (by omega), sub', s2, s3⟩)⟩⟩
      have hlt4 : rs.length < 4 := by
        have := of_decide_eq_true e1
        omega
      refine ⟨.ref p, rfl, p, qc, 3, n + 4 * i, rfl, rb.2.1, by omega, by decide, by decide, fun d1 G1 _ _ k1 p1 => .inl ⟨rfl, _, rfl, ite2 (fun e2 => ?_) (fun e2 => ⟨_, _, _, rs, vs, rfl, stay _ _ (rb.kp of' k1 p1) (by omega), sub', s2, s3⟩)⟩⟩
      replace rb := rb.kp of' k1 p1
      clear k1 p1 e1 e2
      -- the least
      refine ⟨.ref p, rfl, by show 4 ≤ sizeLine; decide, fun l1 n1 => ?_⟩
      replace rb := rb.new of' n1 (o := .lst [V.int 0, V.int 1, V.int 2, V.int 3])
      have f1 : (upd G1 l1 (.lst [V.int 0, V.int 1, V.int 2, V.int 3])) l1 = some (.lst [V.int 0, V.int 1, V.int 2, V.int 3]) := upd_same
      generalize upd G1 l1 (.lst [V.int 0, V.int 1, V.int 2, V.int 3]) = G2 at rb f1
      refine ⟨.ref b, rfl, .inl ⟨l1, b, [0, 1, 2, 3].map V.int, hefts.map V.int, rfl, rfl, f1, rb.1 _ _ bp hb, by rw [List.length_map, List.length_map, sizeLine_eq]; show 4 + _ ≤ _; omega, fun l2 n2 => ?_⟩⟩
      replace rb := rb.new of' n2 (o := .lst ([0, 1, 2, 3].map V.int ++ hefts.map V.int))
      have f2 : (upd G2 l2 (.lst ([0, 1, 2, 3].map V.int ++ hefts.map V.int))) l2 = some (.lst ([0, 1, 2, 3].map V.int ++ hefts.map V.int)) := upd_same
      clear f1
      generalize upd G2 l2 (.lst ([0, 1, 2, 3].map V.int ++ hefts.map V.int)) = G3 at rb f2
      have hb3 := rb.1 _ _ bp hb
      refine ⟨.ref b, rfl, 2, rfl, .inl ⟨b, hefts.map V.int, rfl, .inl (.inl hb3), fun l3 n3 => ?_⟩⟩
      rw [cutV_to (by decide), show (2 : Int).toNat = 2 from rfl, ← List.map_take]
      replace rb := rb.new of' n3 (o := .lst ((hefts.take 2).map V.int))
      have f3 : (upd G3 l3 (.lst ((hefts.take 2).map V.int))) l3 = some (.lst ((hefts.take 2).map V.int)) := upd_same
      replace f2 := same_new n3 (o := .lst ((hefts.take 2).map V.int)) _ _ f2
      replace hb3 := same_new n3 (o := .lst ((hefts.take 2).map V.int)) _ _ hb3
      generalize upd G3 l3 (.lst ((hefts.take 2).map V.int)) = G4 at rb f2 f3 hb3
      refine ⟨l3, hefts.take 2, rfl, .inl (.inl f3), .ref b, rfl, b, hefts, rfl, .inl (.inl hb3), by show 2 ≤ sizeLine; decide, fun l4 n4 => ?_⟩
      replace rb := rb.new of' n4 (o := .lst [V.int (hefts.take 2).sum, V.int hefts.sum])
      have f4 : (upd G4 l4 (.lst [V.int (hefts.take 2).sum, V.int hefts.sum])) l4 = some (.lst [V.int (hefts.take 2).sum, V.int hefts.sum]) := upd_same
      replace f2 := same_new n4 (o := .lst [V.int (hefts.take 2).sum, V.int hefts.sum]) _ _ f2
      generalize upd G4 l4 (.lst [V.int (hefts.take 2).sum, V.int hefts.sum]) = G5 at rb f2 f4
      refine .inl ⟨l2, l4, _, _, rfl, rfl, f2, f4, by simp only [List.length_append, List.length_map, sizeLine_eq]; show 4 + _ + 2 ≤ _; omega, fun l5 n5 => ?_⟩
      have o5 : l5 ≠ p := rb.2.1.off n5
      replace rb := rb.new of' n5 (o := .lst ([0, 1, 2, 3].map V.int ++ hefts.map V.int ++ [V.int (hefts.take 2).sum, V.int hefts.sum]))
      have f5 : (upd G5 l5 (.lst ([0, 1, 2, 3].map V.int ++ hefts.map V.int ++ [V.int (hefts.take 2).sum, V.int hefts.sum]))) l5 = some (.lst ([0, 1, 2, 3].map V.int ++ hefts.map V.int ++ [V.int (hefts.take 2).sum, V.int hefts.sum])) := upd_same
      generalize upd G5 l5 (.lst ([0, 1, 2, 3].map V.int ++ hefts.map V.int ++ [V.int (hefts.take 2).sum, V.int hefts.sum])) = G6 at rb f5
      refine ⟨p, .ref l5, qc, n + 4 * i + 1, _, rfl, rb.2.1, by omega, .inl ⟨l5, rfl, o5, .inl (.inl (.inl f5))⟩, by simp, by simp; omega, fun v G7 hv k7 p7 => ?_⟩
      obtain ⟨y, hy0, rfl⟩ := pick_int hh hv
      replace rb := rb.kp of' k7 p7
      clear k7 p7 f5 n1 n2 n3 n4 n5 f2 f3 f4 hb3 hv
      refine ⟨9999999, y, rfl, ?_⟩
      generalize hy : (if y < 9999999 then y else 9999999) = least
      have l0 : 0 ≤ least := by split at hy <;> omega
      have l1 : least ≤ 9999999 := by split at hy <;> omega
      -- the most
      refine ⟨.int least, rfl, .ref p, rfl, p, qc, 4, n + 4 * i + 1 + 1, rfl, rb.2.1, by omega, by decide, by decide, fun d2 G8 d20 d21 k8 p8 => ⟨9999999, least + d2, rfl, by show 3 ≤ sizeLine; decide, fun l6 n6 => ?_⟩⟩
      replace rb := rb.kp of' k8 p8
      have o6 : l6 ≠ p := p8.off n6
      generalize hz : (if least + d2 < 9999999 then least + d2 else 9999999) = z at n6 ⊢
      have z0 : least ≤ z ∧ z ≤ 9999999 := by split at hz <;> omega
      replace rb := rb.new of' n6 (o := .lst [V.non, V.non, V.int z])
      have f6 : (upd G8 l6 (.lst [V.non, V.non, V.int z])) l6 = some (.lst [V.non, V.non, V.int z]) := upd_same
      clear k8 p8 n6
      generalize upd G8 l6 (.lst [V.non, V.non, V.int z]) = G9 at rb f6
      refine ⟨.ref p, rfl, p, qc, 3, _, rfl, rb.2.1, by omega, by decide, by decide, fun d3 Ga d30 d31 ka pa => ?_⟩
      obtain ⟨m, hm, hmz⟩ := at_three z d30 d31
      refine .inl ⟨l6, _, d3, optV m, rfl, rfl, .inl (.inl (ka _ _ o6 f6)), hm, ?_⟩
      replace rb := rb.kp of' ka pa
      refine ⟨.ref lf, rfl, .inl ⟨rfl, _, .inl (.inl rb.2.2.1)⟩, .str room, rfl, .int least, rfl, optV m, rfl, by show 3 ≤ sizeLine; decide, fun l7 n7 => ?_⟩
      have o7 : l7 ≠ p := rb.2.1.off n7
      have o7' : l7 ≠ lf := fun e => by rw [e, rb.2.2.1] at n7; cases n7
      replace rb := rb.new of' n7 (o := .tup [V.str room, V.int least, optV m])
      have f7 : (upd Ga l7 (.tup [V.str room, V.int least, optV m])) l7 = some (.tup [V.str room, V.int least, optV m]) := upd_same
      generalize upd Ga l7 (.tup [V.str room, V.int least, optV m]) = Gb at rb f7
      refine ⟨lf, vs, .ref l7, rfl, rfl, rb.2.2.1, small1000000 (by omega), _, _, _, rs ++ [⟨room, least, m⟩], vs ++ [.ref l7], rfl, ?_, ?_, by rw [List.length_append]; show _ + 1 ≤ 4; omega, ?_⟩
      · refine ⟨?_, (rb.2.1.wr hp zf).le (by omega), upd_same, ?_⟩
        · intro b o nb e
          have : b ≠ lf := fun z => by rw [z, zf] at e; cases e
          rw [upd_ne this]
          exact rb.1 _ _ nb e
        · rw [List.map_append]
          refine DqAll.move (fun _ n => n) (fun x o nx e => by rw [upd_ne nx.2]; exact e) _ _ (DqAll.snoc rb.2.2.2 ?_)
          exact dq_row (r := ⟨room, least, m⟩) ⟨o7, o7'⟩ (.inl (.inl f7))
      · rw [List.map_append, take_snoc hroom]
        exact s1.append (List.Sublist.refl _)
      · intro r hr
        rcases List.mem_append.mp hr with hr | hr
        · exact s3 r hr
        · rw [List.mem_singleton.mp hr]
          exact ⟨l0, l1, fun m' e => by
            have := hmz m' e
            subst this
            exact ⟨z0.1, z0.2⟩⟩
    · obtain ⟨d4, d5, d6, rs, vs, rfl, rb, s1, s2, s3⟩ := pv
      refine ⟨.ref lf, rfl, .inl ⟨lf, vs, rfl, .inl (.inl rb.2.2.1), fun t nt => ?_⟩⟩
      have ot : t ≠ p := rb.2.1.off nt
      refine q t rs _ ⟨by rw [List.length_map, List.take_length] at s1; exact s1, s2, s3⟩ (rb.1.new nt) ?_ (rb.1.free ot nt) ?_
      · rw [List.length_map] at rb
        exact rb.2.1.same (same_new nt)
      · exact .tup ot (.inl (.inl upd_same)) (DqAll.move (fun _ z => z.1) (fun x o _ e => same_new nt x o e) _ _ rb.2.2.2)
end
end Wd

set_option Elab.async false
set_option linter.all false
set_option maxRecDepth 100000
set_option maxHeartbeats 4000000
/-! list(d.values()) -/
namespace Wd
open PySem PySem.Spec PyProof.Rows L2
def rValsL : V → Hp → VK → Prop := fun x H Q => ∃ (d : Addr) (kvs : List (Key × V)), x = .ref d ∧ H d = some (.dK kvs) ∧ ∀ l, H l = none → Q (.ref l) (upd H l (.lst (kvs.map fun kv => kv.2)))
def tListVals (te : TE) : TE := fun σ H Q => te σ H fun x H1 => rValsL x H1 Q
section
variable {X : Cx} {e : Expr} {te : TE} {p apos cpos pos : Pos}
theorem vals_by {kvs : List (Key × V)} {vs : List (Key × Value)} (kv : KV kvs vs) : ∀ {acc : List Value}, acc.length = vs.length → (∀ (j : Nat) (v : Value), acc[j]? = some v → ∃ k : Key, vs[j]? = some (k, v)) → Vals (kvs.map fun z => z.2) acc := by
  induction kv with
  | nil =>
    intro acc h _
    cases acc with
    | nil => exact .nil
    | cons _ _ => cases h
  | cons hd _ ih =>
    intro acc h g
    cases acc with
    | nil => cases h
    | cons a r =>
      obtain ⟨k, hk⟩ := g 0 a rfl
      cases hk
      exact .cons hd.2 (ih (Nat.succ.inj h) fun j v hj => g (j + 1) v hj)
theorem pe_listVals (hcalm : X.calm = true) (hte : PE X e te) (hgl : Gl X "list") (hmg : X.mg "list" = none) (ab : attributeBase e "values" X.env (eval e X.env) = eval e X.env := by rfl) (ln : (apos.endLine == cpos.line) = true := by rfl)
    (se : starEach [.Call (.Attribute e "values" apos) [] [] cpos] X.env = (false, eval (.Call (.Attribute e "values" apos) [] [] cpos) X.env) :: starEach [] X.env := by rfl) :
    PE X (.Call (.Name "list" p) [.Call (.Attribute e "values" apos) [] [] cpos] [] pos) (tListVals te) := by
  refine ⟨fun pins s σ H Q I q0 => ?_⟩
  refine wpAny_Call_Name_kw (ld_blt I hgl hmg bt_list (PyProof.Rows.callWith_type1 ?_ se rfl))
  rw [se]
  refine show wpAny _ _ (spliced ((false, eval (.Call (.Attribute e "values" apos) [] [] cpos) X.env) :: backTo pos (starEach [] X.env))) _ _ s from Calls.spliced_cons ?_
  refine wpAny_Call_method (T := "dict") (id := "dict.values") ab rfl ln F.plainAttrs_dict F.slot_dict_values F.type_dict_values (thn (hte.run pins s σ H _ I q0) fun u s1 ⟨x, H1, I1, rx, d, kvs, ex, hd, q⟩ => ?_)
  subst ex
  cases rx
  obtain ⟨hz, hs0, vs, kv, hdo⟩ := I1.hok d _ hd
  obtain ⟨ep, hat⟩ := hdo.dictAt
  have lk : kvs.length = vs.length := Paired.length kv
  have I2 : Inv X pins σ H1 { s1 with heap := s1.heap.push { cls := .type "dict_values", data := .fields #[.ref d] } } := I1.kept (t' := s1.toks) fun b ob q => Heap.get?_push_of_some _ q
  refine ⟨hdo.typeIs, hdo.mapOf.noDict, show wpAny _ _ (callWith cpos (.builtin "dict.values") [.ref d] [] []) _ X.xe s1 from ?_⟩
  refine method_meetsIn F.slot_dict_values F.entry_dict_values rfl (PySem.evalArgs_none ⟨rfl, hdo.typeIs, F.args_dict_values_1 _, _, meets_dict_values (mixKind X.prog X.w) d hs0, ⟨vs, hdo⟩, Calls.spliced_nil ?_⟩)
  refine PySem.W.kdl_call (PySem.W.kdl_values (knd := mixKind X.prog X.w) (kvs := vs) (d := d) (ep := ep)) (I1.ok.hd hcalm) ⟨⟨_, Heap.get?_push_size _ rfl, rfl, rfl⟩, hat.push _⟩ (by omega) fun h' tk acc c' hk hD hacc => ?_
  have hv : Vals (kvs.map fun z => z.2) acc.toList := vals_by kv (by rw [Array.length_toList]; exact hacc.1) fun j v g => hacc.2 j v (by rw [← Array.getElem?_toList]; exact g)
  refine ⟨.ref _, upd H1 _ (.lst (kvs.map fun z => z.2)), I2.laid (t' := tk) hk (Nat.le_refl _) (show ObjOk X.prog X.w _ _ _ (.lst (kvs.map fun z => z.2)) from ⟨by rw [List.length_map]; exact hz, acc.toList, c', hv, by rw [Array.toArray_toList]; exact hD⟩), rfl, q _ (I2.hok.fresh (Nat.le_refl _))⟩
end
/-! ### sum of a list or a tuple -/
def rSumG (K : PySem.W.Frag) : List V → Hp → VK → Prop := fun vs H Q => ∃ (a : Addr) (ns : List Int), vs = [V.ref a] ∧ (SqL K H a (ns.map V.int) ∨ SqT K H a (ns.map V.int)) ∧ Q (.int ns.sum) H
theorem cr_sumG {X : Cx} {K : PySem.W.Frag} (hc : X.calm = true) (hK : X.K = K := by rfl) : CallR X (.builtin "sum") (rSumG K) := by
  subst hK
  intro pins s σ H vs us Q I r h
  obtain ⟨a, ns, rfl, hs | hs, q⟩ := h
  · exact cr_sum hc pins s σ H _ us Q I r ⟨a, ns, rfl, hs, q⟩
  · obtain ⟨its, rv, ht, _⟩ := I.tuple hs
    rw [Vals.ref1 r]
    have hi := rv.ints
    obtain ⟨xs, e⟩ := hi.allInts.items
    have hn : numsOf (intItems xs).toList = ns := by rw [← e]; exact hi.numsOf
    rw [nums_intItems] at hn
    rw [e] at ht
    refine PySem.W.ktm_sumG (I.ok.hd hc) ht fun h' tk t' hk => ?_
    rw [preSum_eq, List.take_of_length_le (by simp), hn]
    exact ⟨.int _, H, I.kept hk, ⟨_, rfl⟩, q⟩
end Wd

set_option Elab.async false
set_option linter.all false
set_option maxRecDepth 100000
set_option maxHeartbeats 4000000
namespace Wd
open PySem PySem.Spec PyProof.Rows L2
abbrev s__law_hall_of : Stmt := topS 27
theorem sc__law_hall_of : FnScope ["pen", "names", "size", "hall", "k", "name", "rooms", "hefts", "at", "far", "ends", "way", "one"] ["pen", "names", "size"] (C8.fnScope s__law_hall_of) := ⟨rfl, rfl, rfl, by decide +kernel, rfl, by decide +kernel, by decide +kernel⟩
def KpN (N : Addr → Prop) (H H' : Hp) : Prop := ∀ a o, N a → H a = some o → H' a = some o
theorem KpN.refl (N : Addr → Prop) (H : Hp) : KpN N H H := fun _ _ _ e => e
theorem KpN.new {N : Addr → Prop} {H G : Hp} {l : Addr} {o : HO} (k : KpN N H G) (nl : G l = none) : KpN N H (upd G l o) := fun a u n e => same_new nl _ _ (k a u n e)
theorem KpN.kp {N : Addr → Prop} {H G G' : Hp} {p : Addr} (k : KpN N H G) (np : ∀ a, N a → a ≠ p) (k2 : Kp p G G') : KpN N H G' := fun a u n e => k2 _ _ (np a n) (k a u n e)
theorem KpN.wr {N : Addr → Prop} {H G : Hp} {l : Addr} {o : HO} (k : KpN N H G) (nl : ¬ N l) : KpN N H (upd G l o) := fun a u n e => by
  have ne : a ≠ l := fun z => nl (by rw [← z]; exact n)
  rw [upd_ne ne]
  exact k a u n e
theorem KpN.sqL {N : Addr → Prop} {K : PySem.W.Frag} {H G : Hp} {a : Addr} {xs : List V} (k : KpN N H G) (n : N a) (h : SqL K H a xs) : SqL K G a xs := by
  rcases h with (h | ⟨u, h⟩) | h
  · exact .inl (.inl (k _ _ n h))
  · exact .inl (.inr ⟨u, k _ _ n h⟩)
  · exact .inr h
theorem KpN.sqT {N : Addr → Prop} {K : PySem.W.Frag} {H G : Hp} {a : Addr} {xs : List V} (k : KpN N H G) (n : N a) (h : SqT K H a xs) : SqT K G a xs := by
  rcases h with (h | ⟨u, h⟩) | h
  · exact .inl (.inl (k _ _ n h))
  · exact .inl (.inr ⟨u, k _ _ n h⟩)
  · exact .inr h
theorem at_way {d : Int} (h0 : 0 ≤ d) (h1 : d < 3) : ∃ m : Str, atI [V.str "both", V.str "both", V.str "on"] d = some (.str m) ∧ (m = "both" ∨ m = "on") := by
  have h : d = 0 ∨ d = 1 ∨ d = 2 := by omega
  rcases h with rfl | rfl | rfl
  · exact ⟨_, rfl, .inl rfl⟩
  · exact ⟨_, rfl, .inl rfl⟩
  · exact ⟨_, rfl, .inr rfl⟩
theorem nodup_get {α : Type} {xs : List α} (h : xs.Nodup) {i j : Nat} (hi : i < xs.length) (hj : j < xs.length) (e : xs[i] = xs[j]) : i = j := by
  have p := List.pairwise_iff_getElem.mp h
  rcases Nat.lt_trichotomy i j with c | c | c
  · exact absurd e (p i j hi hj c)
  · exact c
  · exact absurd e.symm (p j i hj hi c)
theorem at_five {d : Int} (h0 : 0 ≤ d) (h1 : d < 5) : ∃ m : Int, atI [V.int 0, V.int 1, V.int 2, V.int 3, V.int 9] d = some (.int m) ∧ (m = 0 ∨ m = 1 ∨ m = 2 ∨ m = 3 ∨ m = 9) := by
  have h : d = 0 ∨ d = 1 ∨ d = 2 ∨ d = 3 ∨ d = 4 := by omega
  rcases h with rfl | rfl | rfl | rfl | rfl <;> exact ⟨_, rfl, by decide⟩
section
variable {P : Program} {w : World} {K : PySem.W.Frag} {mg : Str → Option Value} {base : Heap}
/-- the doors' dict isn't the hall's own -/
def ApartH (H : Hp) (h : Addr) : Prop := ∀ d s w r : Addr, H h = some (.dK [(.inr "doors", .ref d), (.inr "stones", .ref s), (.inr "walkers", .ref w), (.inr "rooms", .ref r)]) → h ≠ d
theorem cal_imp {k : Nat} {n : Str} {sp sp' : Sp} {dvs : List V} (c : C8.Cal P w K mg base k n sp dvs) (h : ∀ vs H Q E, sp' vs H Q E → sp vs H Q E) : C8.Cal P w K mg base k n sp' dvs := by
  obtain ⟨f, fd, ps, ds, F, r⟩ := c.ex
  exact ⟨f, fd, ps, ds, F.imp h, r⟩
def spHallOf (K : PySem.W.Frag) : Sp := fun vs H Q _ => ∃ (p a b : Addr) (qc : Addr × List Int) (n : Nat) (names : List Str) (sr sd ss sw : Nat), vs = [.ref p, .ref a, .ref b] ∧ Pen K H p qc n ∧ n + 2000 < 1000000 ∧ a ≠ p ∧ SqL K H a (names.map V.str) ∧ b ≠ p ∧ SqT K H b [.int sr, .int sd, .int ss, .int sw] ∧
  sr + sd + ss + sw ≤ names.length ∧ names.length ≤ 18 ∧ names.Nodup ∧ (∀ x ∈ names, NameOk x) ∧ 1 ≤ sr ∧ 1 ≤ sw ∧
  ∀ (h : Addr) (x : HallH) (H' : Hp), HallOk sr sd ss sw x → HallAt (· ≠ p) K H' h x → Kp p H H' → Pen K H' p qc (n + 2000) → H h = none → Q (.ref h) H'
def spHallOfD (K : PySem.W.Frag) : Sp := fun vs H Q _ => ∃ (p a b : Addr) (qc : Addr × List Int) (n : Nat) (names : List Str) (sr sd ss sw : Nat), vs = [.ref p, .ref a, .ref b] ∧ Pen K H p qc n ∧ n + 2000 < 1000000 ∧ a ≠ p ∧ SqL K H a (names.map V.str) ∧ b ≠ p ∧ SqT K H b [.int sr, .int sd, .int ss, .int sw] ∧
  sr + sd + ss + sw ≤ names.length ∧ names.length ≤ 18 ∧ names.Nodup ∧ (∀ x ∈ names, NameOk x) ∧ 1 ≤ sr ∧ 1 ≤ sw ∧
  ∀ (h : Addr) (x : HallH) (H' : Hp), HallOk sr sd ss sw x → HallAt (· ≠ p) K H' h x → ApartH H' h → Kp p H H' → Pen K H' p qc (n + 2000) → H h = none → Q (.ref h) H'
theorem c_hallOfD {c : CA} (T : Txt P w K mg base c) (c_law_draw : C8.Cal P w K mg base 1 "_law_draw" (spDraw K) []) (c_law_pick : C8.Cal P w K mg base 2 "_law_pick" (spPick K) []) (c_law_heft : C8.Cal P w K mg base 2 "_law_heft" (spHeft K) []) (c_law_rows : C8.Cal P w K mg base 3 "_law_rows" (spRows K) []) {f : Addr} {fd : FuncData} (F : C8.Def K mg "_law_hall_of" s__law_hall_of f fd) (b : Binds K fd ["pen", "names", "size"] []) : C8.Cal P w K mg base 4 "_law_hall_of" (spHallOfD K) [] := by
  refine C8.cal0 F b .nil sc__law_hall_of (fun vs H Q E h => ?_) (fun cdv A outer s H vs Q E hr h => ?_)
  · obtain ⟨p, a, b, qc, n, names, sr, sd, ss, sw, rfl, _⟩ := h
    rfl
  · obtain ⟨p, a, b, qc, n, names, sr, sd, ss, sw, rfl, hp, hn, ap, ha, bp, hb, l1, l2, nd, nk, r1, w1, q⟩ := h
    have hu := hu_of hr
    have hu6 := hu64 hr
    refine ⟨_, (pss_cons (ps_set (i := 3) sc__law_hall_of.nd rfl (.inl rfl) (pe_disp (pps_cons pe_str pe_dnewK (pps_cons pe_str pe_dnewK (pps_cons pe_str (pe_lst pa_nil) pps_nil))) rfl rfl (by simp) (by decide)))
  (pss_cons (ps_dput hu (pv 3) pe_str (pe_callB (cr_sortedS) (by rfl) T.b_sorted bt_sorted (pa_cons (pe_slice (sl_any (K := K)) (pv 1) po_none (po_some (pe_op (op_addG (K := K)) pe_int (C8.pe_c c_law_draw hr (by decide) (by rfl) (pa_cons (pv 0) (pa_cons (pe_ix (ixG (K := K)) (pv 2) pe_int (fun _ _ => rfl)) pa_nil)))))) pa_nil)) rfl)
  (pss_cons (ps_set (i := 1) sc__law_hall_of.nd rfl (.inl rfl) (pe_slice (sl_any (K := K)) (pv 1) (po_some (pe_ix (ixG (K := K)) (pv 2) pe_int (fun _ _ => rfl))) po_none))
  (pss_cons (ps_for PassesOwn.never rfl (pi_range1 rfl T.b_range (pa_cons (pe_op (op_addG (K := K)) pe_int (C8.pe_c c_law_draw hr (by decide) (by rfl) (pa_cons (pv 0) (pa_cons (pe_ix (ixG (K := K)) (pv 2) pe_int (fun _ _ => rfl)) pa_nil)))) pa_nil)) (pg_name (i := 4) sc__law_hall_of.nd rfl (.inl rfl))
    (pss_one (ps_expr (pe_bm PySem.F.plainAttrs_list PySem.F.slot_list_append PySem.F.type_list_append mt_append (pe_dget hu (pv 3) pe_str (fun _ _ => rfl)) (pa_cons (pe_tup (pa_cons (pe_ix (ixG (K := K)) (pv 1) (pv 4) (fun _ _ => rfl)) (pa_cons (C8.pe_c c_law_heft hr (by decide) (by rfl) (pa_cons (pv 0) pa_nil)) (pa_cons (pe_ix (ixG (K := K)) (pe_lst (pa_cons pe_int (pa_cons pe_int (pa_cons pe_int (pa_cons pe_int (pa_cons pe_int pa_nil)))))) (C8.pe_c c_law_draw hr (by decide) (by rfl) (pa_cons (pv 0) (pa_cons pe_int pa_nil))) (fun _ _ => rfl)) pa_nil)))) pa_nil)))))
  (pss_cons (ps_set (i := 1) sc__law_hall_of.nd rfl (.inl rfl) (pe_slice (sl_any (K := K)) (pv 1) (po_some (pe_ix (ixG (K := K)) (pv 2) pe_int (fun _ _ => rfl))) po_none))
  (pss_cons (ps_for PassesOwn.never rfl (pi_listK (K := K) (pe_callB (cr_sortedS) (by rfl) T.b_sorted bt_sorted (pa_cons (pe_slice (sl_any (K := K)) (pv 1) po_none (po_some (C8.pe_c c_law_draw hr (by decide) (by rfl) (pa_cons (pv 0) (pa_cons (pe_op (op_addG (K := K)) (pe_ix (ixG (K := K)) (pv 2) pe_int (fun _ _ => rfl)) pe_int) pa_nil))))) pa_nil))) (pg_name (i := 5) sc__law_hall_of.nd rfl (.inl rfl))
    (pss_one (ps_dput hu (pe_dget hu (pv 3) pe_str (fun _ _ => rfl)) (pv 5) (C8.pe_c c_law_heft hr (by decide) (by rfl) (pa_cons (pv 0) pa_nil)) rfl)))
  (pss_cons (ps_par (i := 6) (j := 7) rfl sc__law_hall_of.nd rfl rfl (by decide) rfl rfl (pa_cons (pe_dget hu (pv 3) pe_str (fun _ _ => rfl)) (pa_cons (pe_lc (own := [("one", 12)]) rfl sc__law_hall_of.nd (pi_listK (K := K) (pe_dget hu (pv 3) pe_str (fun _ _ => rfl))) (blkOk_by (by kernel_rfl)) (fun _ _ _ _ _ => (pg_name (i := 12) sc__law_hall_of.nd rfl (.inl rfl))) (fun _ _ _ _ _ => pts_nil)
      (fun _ _ _ _ _ => (pe_ix (ixG (K := K)) (pv 12) pe_int (fun _ _ => rfl)))) pa_nil)) rfl)
  (pss_cons (ps_set (i := 7) sc__law_hall_of.nd rfl (.inl rfl) (pe_op (op_addG (K := K)) (pv 7) (pe_listVals (by rfl) (pe_dget hu (pv 3) pe_str (fun _ _ => rfl)) (by rfl) T.b_list)))
  (pss_cons (ps_for PassesOwn.never rfl (pi_listK (K := K) (pe_callB (cr_sortedS) (by rfl) T.b_sorted bt_sorted (pa_cons (pe_slice (sl_any (K := K)) (pe_slice (sl_any (K := K)) (pv 1) (po_some (pe_ix (ixG (K := K)) (pv 2) pe_int (fun _ _ => rfl))) po_none) po_none (po_some (pe_op (op_mulG (K := K)) (C8.pe_c c_law_draw hr (by decide) (by rfl) (pa_cons (pv 0) (pa_cons (pe_op (op_addG (K := K)) (pe_ix (ixG (K := K)) (pv 2) pe_int (fun _ _ => rfl)) pe_int) pa_nil))) (pe_callTy (call_int1) (by rfl) T.b_int bt_int (pa_cons (pe_cmpR (op_gt) (pe_callB (call_lenG (K := K)) (by rfl) T.b_len bt_len (pa_cons (pv 6) pa_nil)) pe_int (nomark _)) pa_nil))))) pa_nil))) (pg_name (i := 5) sc__law_hall_of.nd rfl (.inl rfl))
    (pss_cons (ps_set (i := 8) sc__law_hall_of.nd rfl (.inl rfl) (C8.pe_c c_law_draw hr (by decide) (by rfl) (pa_cons (pv 0) (pa_cons (pe_callB (call_lenG (K := K)) (by rfl) T.b_len bt_len (pa_cons (pv 6) pa_nil)) pa_nil))))
  (pss_cons (ps_set (i := 9) sc__law_hall_of.nd rfl (.inl rfl) (pe_op (op_addG (K := K)) (pe_op (op_addG (K := K)) (pv 8) pe_int) (C8.pe_c c_law_draw hr (by decide) (by rfl) (pa_cons (pv 0) (pa_cons (pe_callB (call_max2 rfl) (by rfl) T.b_max bt_max (pa_cons pe_int (pa_cons (pe_op (op_sub) (pe_callB (call_lenG (K := K)) (by rfl) T.b_len bt_len (pa_cons (pv 6) pa_nil)) pe_int) pa_nil))) pa_nil)))))
  (pss_cons (ps_set (i := 10) sc__law_hall_of.nd rfl (.inl rfl) (pe_lst (pa_cons (pe_ix (ixG (K := K)) (pv 6) (pv 8) (fun _ _ => rfl)) (pa_cons (pe_ix (ixG (K := K)) (pv 6) (pe_op (op_mod) (pv 9) (pe_callB (call_lenG (K := K)) (by rfl) T.b_len bt_len (pa_cons (pv 6) pa_nil))) (fun _ _ => rfl)) pa_nil))))
  (pss_cons (ps_set (i := 11) sc__law_hall_of.nd rfl (.inl rfl) (pe_ix (ixG (K := K)) (pe_lst (pa_cons pe_str (pa_cons pe_str (pa_cons pe_str pa_nil)))) (C8.pe_c c_law_draw hr (by decide) (by rfl) (pa_cons (pv 0) (pa_cons pe_int pa_nil))) (fun _ _ => rfl)))
  (C8.pss_cut (ps_if (pt_cmpR (op_eqX (K := K) hu6) (pv 11) pe_str (nomark _)) (pss_one (ps_set (i := 10) sc__law_hall_of.nd rfl (.inl rfl) (pe_callB (cr_sortedS) (by rfl) T.b_sorted bt_sorted (pa_cons (pv 10) pa_nil)))) pss_nil)
  (pss_one (ps_dput hu (pe_dget hu (pv 3) pe_str (fun _ _ => rfl)) (pv 5) (pe_tup (pa_cons (pe_ix (ixG (K := K)) (pv 10) pe_int (fun _ _ => rfl)) (pa_cons (pe_ix (ixG (K := K)) (pv 10) pe_int (fun _ _ => rfl)) (pa_cons (pv 11) (pa_cons (C8.pe_c c_law_rows hr (by decide) (by rfl) (pa_cons (pv 0) (pa_cons (pv 6) (pa_cons (pv 7) pa_nil)))) pa_nil))))) rfl))))))))
  (pss_one (ps_ret (pv 3)))))))))))), ?_⟩
    -- the dict
    intro h nh
    have oh := hp.off nh
    have s1 := same_new nh (o := .dK [])
    have g1 : (upd H h (.dK [])) h = some (.dK []) := upd_same
    have p1 := hp.same s1
    generalize upd H h (.dK []) = G1 at s1 g1 p1
    intro d ndd
    have od := p1.off ndd
    have zd := s1.free ndd
    have s2 := s1.trans (same_new ndd (o := .dK []))
    have g2 := same_new ndd (o := .dK []) _ _ g1
    have d2 : (upd G1 d (.dK [])) d = some (.dK []) := upd_same
    have hd : h ≠ d := ne_of_none g1 ndd
    have p2 := p1.same (same_new ndd (o := .dK []))
    generalize upd G1 d (.dK []) = G2 at s2 g2 d2 p2
    intro st nst
    have os := p2.off nst
    have zs := s2.free nst
    have s3 := s2.trans (same_new nst (o := .dK []))
    have g3 := same_new nst (o := .dK []) _ _ g2
    have d3 := same_new nst (o := .dK []) _ _ d2
    have t3 : (upd G2 st (.dK [])) st = some (.dK []) := upd_same
    have hs : h ≠ st := ne_of_none g2 nst
    have hds : d ≠ st := ne_of_none d2 nst
    have p3 := p2.same (same_new nst (o := .dK []))
    generalize upd G2 st (.dK []) = G3 at s3 g3 d3 t3 p3
    refine ⟨Nat.zero_le _, fun wl nw => ?_⟩
    have ow := p3.off nw
    have zw := s3.free nw
    have s4 := s3.trans (same_new nw (o := .lst []))
    have g4 := same_new nw (o := .lst []) _ _ g3
    have d4 := same_new nw (o := .lst []) _ _ d3
    have t4 := same_new nw (o := .lst []) _ _ t3
    have w4 : (upd G3 wl (.lst [])) wl = some (.lst []) := upd_same
    have p4 := p3.same (same_new nw (o := .lst []))
    generalize upd G3 wl (.lst []) = G4 at s4 g4 d4 t4 w4 p4
    refine ⟨g4, [(.inr "doors", .ref d), (.inr "stones", .ref st), (.inr "walkers", .ref wl)], rfl, (by show 3 ≤ 15; decide), ?_⟩
    clear p1 p2 p3 s1 s2 s3 g1 g2 g3 d2 d3 t3 nw nst ndd
    rw [show mergeK [] [((.inr "doors" : Key), V.ref d), (.inr "stones", .ref st), (.inr "walkers", .ref wl)] = [(.inr "doors", .ref d), (.inr "stones", .ref st), (.inr "walkers", .ref wl)] from rfl]
    have hw : h ≠ wl := fun e => by rw [e, w4] at g4; cases g4
    have dw : d ≠ wl := fun e => by rw [e, w4] at d4; cases d4
    have sw' : st ≠ wl := fun e => by rw [e, w4] at t4; cases t4
    have k5 : Kp p H (upd G4 h (.dK [(.inr "doors", .ref d), (.inr "stones", .ref st), (.inr "walkers", .ref wl)])) := fun b o _ e => by
      rw [upd_ne (ne_of_none e nh)]
      exact s4 _ _ e
    have p5 : Pen K (upd G4 h (.dK [(.inr "doors", .ref d), (.inr "stones", .ref st), (.inr "walkers", .ref wl)])) p qc n := p4.wr hp nh
    have h5 : (upd G4 h (.dK [(.inr "doors", .ref d), (.inr "stones", .ref st), (.inr "walkers", .ref wl)])) h = some (.dK [(.inr "doors", .ref d), (.inr "stones", .ref st), (.inr "walkers", .ref wl)]) := upd_same
    have d5 : (upd G4 h (.dK [(.inr "doors", .ref d), (.inr "stones", .ref st), (.inr "walkers", .ref wl)])) d = some (.dK []) := by rw [upd_ne hd.symm]; exact d4
    have t5 : (upd G4 h (.dK [(.inr "doors", .ref d), (.inr "stones", .ref st), (.inr "walkers", .ref wl)])) st = some (.dK []) := by rw [upd_ne hs.symm]; exact t4
    have w5 : (upd G4 h (.dK [(.inr "doors", .ref d), (.inr "stones", .ref st), (.inr "walkers", .ref wl)])) wl = some (.lst []) := by rw [upd_ne hw.symm]; exact w4
    clear g4 d4 t4 w4 p4 s4
    generalize upd G4 h (.dK [(.inr "doors", .ref d), (.inr "stones", .ref st), (.inr "walkers", .ref wl)]) = G5 at k5 p5 h5 d5 t5 w5
    -- the rooms
    refine ⟨.ref a, rfl, .ref p, rfl, .ref b, rfl, .inr (.inl ⟨b, _, 0, .int sr, rfl, rfl, KpN.sqT (N := (· ≠ p)) k5 bp hb, rfl, ?_⟩)⟩
    refine ⟨p, qc, sr, n, rfl, p5, by omega, by omega, by omega, fun e G6 e0 e1 k6 p6 => ?_⟩
    refine ⟨1 + e, rfl, .inl ⟨a, names.map V.str, rfl, KpN.sqL (N := (· ≠ p)) (k5.trans k6) ap ha, fun l7 n7 => ?_⟩⟩
    rw [cutV_to (by omega), ← List.map_take]
    refine ⟨l7, names.take (1 + e).toNat, rfl, .inl (.inl upd_same), by rw [List.length_take]; omega, fun rooms r rperm rsort nr => ?_⟩
    have k8 : Kp p H (upd (upd G6 l7 (.lst ((names.take (1 + e).toNat).map V.str))) r (.lst (rooms.map V.str))) := ((k5.trans k6).new n7).new nr
    have p8 := (p6.same (same_new n7 (o := .lst ((names.take (1 + e).toNat).map V.str)))).same (same_new nr (o := .lst (rooms.map V.str)))
    have keep : ∀ x o, x ≠ p → G5 x = some o → (upd (upd G6 l7 (.lst ((names.take (1 + e).toNat).map V.str))) r (.lst (rooms.map V.str))) x = some o := fun x o nx ex => same_new nr _ _ (same_new n7 _ _ (k6 _ _ nx ex))
    have r8 : (upd (upd G6 l7 (.lst ((names.take (1 + e).toNat).map V.str))) r (.lst (rooms.map V.str))) r = some (.lst (rooms.map V.str)) := upd_same
    have or' : r ≠ p := (p6.same (same_new n7 (o := .lst ((names.take (1 + e).toNat).map V.str)))).off nr
    have wr : wl ≠ r := ne_of_none (same_new n7 _ _ (k6 _ _ ow w5)) nr
    have zr : H r = none := k5.free or' (k6.free or' ((same_new n7).free nr))
    have h8 := keep _ _ oh h5
    have d8 := keep _ _ od d5
    have t8 := keep _ _ os t5
    have w8 := keep _ _ ow w5
    clear h5 d5 t5 w5 p5 p6 n7 nr
    generalize upd (upd G6 l7 (.lst ((names.take (1 + e).toNat).map V.str))) r (.lst (rooms.map V.str)) = G8 at k8 p8 keep r8 h8 d8 t8 w8
    have hr' : h ≠ r := fun z => by rw [z, r8] at h8; cases h8
    have dr : d ≠ r := fun z => by rw [z, r8] at d8; cases d8
    have sr' : st ≠ r := fun z => by rw [z, r8] at t8; cases t8
    refine ⟨.ref h, rfl, h, _, rfl, DPut.k (k := .inr "rooms") h8 (by show 3 < sizeLine; decide), ?_⟩
    rw [show putK [((.inr "doors" : Key), V.ref d), (.inr "stones", .ref st), (.inr "walkers", .ref wl)] (.inr "rooms") (.ref r) = [(.inr "doors", .ref d), (.inr "stones", .ref st), (.inr "walkers", .ref wl), (.inr "rooms", .ref r)] from rfl]
    have k9 : Kp p H (upd G8 h (.dK [(.inr "doors", .ref d), (.inr "stones", .ref st), (.inr "walkers", .ref wl), (.inr "rooms", .ref r)])) := fun b o nb e => by
      rw [upd_ne (ne_of_none e nh)]
      exact k8 _ _ nb e
    have p9 : Pen K (upd G8 h (.dK [(.inr "doors", .ref d), (.inr "stones", .ref st), (.inr "walkers", .ref wl), (.inr "rooms", .ref r)])) p qc (n + 1) := p8.wr hp nh
    have h9 : (upd G8 h (.dK [(.inr "doors", .ref d), (.inr "stones", .ref st), (.inr "walkers", .ref wl), (.inr "rooms", .ref r)])) h = some (.dK [(.inr "doors", .ref d), (.inr "stones", .ref st), (.inr "walkers", .ref wl), (.inr "rooms", .ref r)]) := upd_same
    have d9 : (upd G8 h (.dK [(.inr "doors", .ref d), (.inr "stones", .ref st), (.inr "walkers", .ref wl), (.inr "rooms", .ref r)])) d = some (.dK []) := by rw [upd_ne hd.symm]; exact d8
    have t9 : (upd G8 h (.dK [(.inr "doors", .ref d), (.inr "stones", .ref st), (.inr "walkers", .ref wl), (.inr "rooms", .ref r)])) st = some (.dK []) := by rw [upd_ne hs.symm]; exact t8
    have w9 : (upd G8 h (.dK [(.inr "doors", .ref d), (.inr "stones", .ref st), (.inr "walkers", .ref wl), (.inr "rooms", .ref r)])) wl = some (.lst []) := by rw [upd_ne hw.symm]; exact w8
    have r9 : (upd G8 h (.dK [(.inr "doors", .ref d), (.inr "stones", .ref st), (.inr "walkers", .ref wl), (.inr "rooms", .ref r)])) r = some (.lst (rooms.map V.str)) := by rw [upd_ne hr'.symm]; exact r8
    clear h8 d8 t8 w8 r8 p8 k8 keep k5 k6
    generalize upd G8 h (.dK [(.inr "doors", .ref d), (.inr "stones", .ref st), (.inr "walkers", .ref wl), (.inr "rooms", .ref r)]) = G9 at k9 p9 h9 d9 t9 w9 r9
    -- the other names
    refine ⟨.ref a, rfl, .ref b, rfl, .inr (.inl ⟨b, _, 0, .int sr, rfl, rfl, KpN.sqT (N := (· ≠ p)) k9 bp hb, rfl, sr, rfl, .inl ⟨a, names.map V.str, rfl, KpN.sqL (N := (· ≠ p)) k9 ap ha, fun la na => ?_⟩⟩)⟩
    rw [cutV_from (by omega), Int.toNat_natCast, ← List.map_drop]
    have oa : la ≠ p := p9.off na
    have ka := k9.new na (o := .lst ((names.drop sr).map V.str))
    have pa := p9.same (same_new na (o := .lst ((names.drop sr).map V.str)))
    have a10 : (upd G9 la (.lst ((names.drop sr).map V.str))) la = some (.lst ((names.drop sr).map V.str)) := upd_same
    have aw : wl ≠ la := ne_of_none w9 na
    have ad : d ≠ la := ne_of_none d9 na
    have as : st ≠ la := ne_of_none t9 na
    have ah : h ≠ la := ne_of_none h9 na
    have ar : r ≠ la := ne_of_none r9 na
    have h10 := same_new na (o := .lst ((names.drop sr).map V.str)) _ _ h9
    have d10 := same_new na (o := .lst ((names.drop sr).map V.str)) _ _ d9
    have t10 := same_new na (o := .lst ((names.drop sr).map V.str)) _ _ t9
    have w10 := same_new na (o := .lst ((names.drop sr).map V.str)) _ _ w9
    have r10 := same_new na (o := .lst ((names.drop sr).map V.str)) _ _ r9
    clear h9 d9 t9 w9 r9 na k9 p9
    generalize upd G9 la (.lst ((names.drop sr).map V.str)) = H0 at ka pa a10 h10 d10 t10 w10 r10
    -- the walkers
    refine ⟨.ref p, rfl, .ref b, rfl, .inr (.inl ⟨b, _, 3, .int sw, rfl, rfl, KpN.sqT (N := (· ≠ p)) ka bp hb, rfl, ?_⟩)⟩
    refine ⟨p, qc, sw, n + 1, rfl, pa, by omega, by omega, by omega, fun e' H1 e0' e1' kb pb => ?_⟩
    refine ⟨1 + e', rfl, by omega, by omega, ?_⟩
    have k1 := ka.trans kb
    have h1 := kb _ _ oh h10
    have d1 := kb _ _ od d10
    have t1 := kb _ _ os t10
    have w1' := kb _ _ ow w10
    have r1' := kb _ _ or' r10
    have a1 := kb _ _ oa a10
    clear kb ka pa h10 d10 t10 w10 r10 a10
    have nvl : (names.drop sr).length = names.length - sr := List.length_drop
    refine for_range (fun i σ G => ∃ (d4 : Option V) (ws : List WalkH) (wvs : List V), σ = [some (.ref p), some (.ref la), some (.ref b), some (.ref h), d4, none, none, none, none, none, none, none, none] ∧ KpN (fun x => x ≠ p ∧ x ≠ wl) H1 G ∧ Pen K G p qc (n + 2 + 2 * i) ∧ G wl = some (.lst wvs) ∧ DqAll (fun x => x ≠ p ∧ x ≠ wl) K G wvs (ws.map WalkH.data) ∧ ws.map WalkH.name = (names.drop sr).take i ∧ ∀ x ∈ ws, x.ok)
      ⟨_, [], [], rfl, KpN.refl _ _, pb.le (by omega), w1', .nil, rfl, by simp⟩ (fun i σ G hi pv => ?_) (fun σ G pv => ?_)
    · obtain ⟨d4, ws, wvs, rfl, k, pn, gw, dq, wn, wk⟩ := pv
      have hG := k _ _ ⟨oh, hw⟩ h1
      have aG := k _ _ ⟨oa, aw.symm⟩ a1
      have hi' : i < sw := by omega
      have hin : i < (names.drop sr).length := by omega
      have wl' : wvs.length = i := by
        have := dq.length
        rw [List.length_map] at this
        have e2 := congrArg List.length wn
        rw [List.length_map, List.length_take] at e2
        omega
      refine ⟨.ref h, rfl, h, .ref wl, rfl, DGet.k (k := .inr "walkers") hG, .inl ⟨rfl, _, .inl (.inl gw)⟩, ?_⟩
      refine ⟨.ref la, rfl, .int (0 + i), rfl, .inl ⟨la, _, _, .str (names.drop sr)[i], rfl, rfl, .inl (.inl aG), ?_, ?_⟩⟩
      · refine atI_in (j := i) (by omega) ?_
        rw [List.getElem?_map, List.getElem?_eq_getElem hin]
        rfl
      refine ⟨.ref p, rfl, p, qc, _, rfl, pn, by omega, fun hf G2 f0 f1 k2 p2 => ?_⟩
      replace k := k.kp (fun _ z => z.1) k2
      replace gw := k2 _ _ ow gw
      replace dq := DqAll.move (fun _ z => z) (fun x o z e => k2 x o z.1 e) _ _ dq
      refine ⟨by show 5 ≤ sizeLine; decide, fun l5 n5 => ?_⟩
      have o5 := p2.off n5
      replace k := k.new n5 (o := .lst [V.int 0, V.int 1, V.int 2, V.int 3, V.int 9])
      replace gw := same_new n5 (o := .lst [V.int 0, V.int 1, V.int 2, V.int 3, V.int 9]) _ _ gw
      replace dq := dq.mono (same_new n5 (o := .lst [V.int 0, V.int 1, V.int 2, V.int 3, V.int 9]))
      replace p2 := p2.same (same_new n5 (o := .lst [V.int 0, V.int 1, V.int 2, V.int 3, V.int 9]))
      have f5 : (upd G2 l5 (.lst [V.int 0, V.int 1, V.int 2, V.int 3, V.int 9])) l5 = some (.lst [V.int 0, V.int 1, V.int 2, V.int 3, V.int 9]) := upd_same
      generalize upd G2 l5 (.lst [V.int 0, V.int 1, V.int 2, V.int 3, V.int 9]) = G3 at k gw dq p2 f5
      refine ⟨.ref p, rfl, p, qc, 5, _, rfl, p2, by omega, by decide, by decide, fun d5 G4 d50 d51 k4 p4 => ?_⟩
      obtain ⟨hd', ha5, hok⟩ := at_five d50 d51
      refine .inl ⟨l5, _, d5, .int hd', rfl, rfl, .inl (.inl (k4 _ _ o5 f5)), ha5, ?_⟩
      replace k := k.kp (fun _ z => z.1) k4
      replace gw := k4 _ _ ow gw
      replace dq := DqAll.move (fun _ z => z) (fun x o z e => k4 x o z.1 e) _ _ dq
      refine ⟨by show 3 ≤ sizeLine; decide, fun l6 n6 => ?_⟩
      have o6 := p4.off n6
      have o6' : l6 ≠ wl := fun z => by rw [z, gw] at n6; cases n6
      replace k := k.new n6 (o := .tup [V.str (names.drop sr)[i], V.int hf, V.int hd'])
      replace gw := same_new n6 (o := .tup [V.str (names.drop sr)[i], V.int hf, V.int hd']) _ _ gw
      replace dq := dq.mono (same_new n6 (o := .tup [V.str (names.drop sr)[i], V.int hf, V.int hd']))
      replace p4 := p4.same (same_new n6 (o := .tup [V.str (names.drop sr)[i], V.int hf, V.int hd']))
      have f6 : (upd G4 l6 (.tup [V.str (names.drop sr)[i], V.int hf, V.int hd'])) l6 = some (.tup [V.str (names.drop sr)[i], V.int hf, V.int hd']) := upd_same
      generalize upd G4 l6 (.tup [V.str (names.drop sr)[i], V.int hf, V.int hd']) = G5 at k gw dq p4 f6
      refine ⟨wl, wvs, .ref l6, rfl, rfl, gw, small1000000 (by omega), _, ws ++ [⟨(names.drop sr)[i], hf, hd'⟩], wvs ++ [.ref l6], rfl, k.wr (fun z => z.2 rfl), (p4.wr hp zw).le (by omega), upd_same, ?_, ?_, ?_⟩
      · rw [List.map_append]
        refine DqAll.move (fun _ n => n) (fun x o nx e => by rw [upd_ne nx.2]; exact e) _ _ (DqAll.snoc dq ?_)
        exact .tup ⟨o6, o6'⟩ (.inl (.inl f6)) (.cons (.str _) (.cons (.int _) (.cons (.int _) .nil)))
      · rw [List.map_append, wn, take_snoc (List.getElem?_eq_getElem hin)]
        rfl
      · intro x hx
        rcases List.mem_append.mp hx with hx | hx
        · exact wk x hx
        · rw [List.mem_singleton.mp hx]
          exact ⟨f0, f1, hok⟩
    obtain ⟨d4, ws, wvs, rfl, k, pn, gw, dq, wn, wk⟩ := pv
    have hW : (1 + e').toNat ≤ sw := by omega
    have k2 : Kp p H G := fun x o nx ex => k _ _ ⟨nx, fun z => by rw [z, zw] at ex; cases ex⟩ (k1 _ _ nx ex)
    have h2 := k _ _ ⟨oh, hw⟩ h1
    have d2 := k _ _ ⟨od, dw⟩ d1
    have t2 := k _ _ ⟨os, sw'⟩ t1
    have r2' := k _ _ ⟨or', wr.symm⟩ r1'
    have a2 := k _ _ ⟨oa, aw.symm⟩ a1
    replace pn := pn.le (m := n + 40) (by omega)
    replace dq := DqAll.move (N' := fun x => x ≠ p) (fun _ z => z.1) (fun _ _ _ z => z) _ _ dq
    clear k k1 h1 d1 t1 w1' r1' a1 pb aw ad as ah ar
    -- the names behind
    refine ⟨.ref la, rfl, .ref b, rfl, .inr (.inl ⟨b, _, 3, .int sw, rfl, rfl, KpN.sqT (N := (· ≠ p)) k2 bp hb, rfl, sw, rfl, .inl ⟨la, (names.drop sr).map V.str, rfl, .inl (.inl a2), fun lb nb => ?_⟩⟩)⟩
    rw [cutV_from (by omega), Int.toNat_natCast, ← List.map_drop]
    generalize hnm3 : (names.drop sr).drop sw = nm3 at nb
    have nl3 : nm3.length = names.length - sr - sw := by rw [← hnm3, List.length_drop, List.length_drop]
    have ob := pn.off nb
    have dbl : d ≠ lb := ne_of_none d2 nb
    have sbl : st ≠ lb := ne_of_none t2 nb
    replace k2 := k2.new nb (o := .lst (nm3.map V.str))
    replace pn := pn.same (same_new nb (o := .lst (nm3.map V.str)))
    replace dq := dq.mono (same_new nb (o := .lst (nm3.map V.str)))
    replace h2 := same_new nb (o := .lst (nm3.map V.str)) _ _ h2
    replace d2 := same_new nb (o := .lst (nm3.map V.str)) _ _ d2
    replace t2 := same_new nb (o := .lst (nm3.map V.str)) _ _ t2
    replace r2' := same_new nb (o := .lst (nm3.map V.str)) _ _ r2'
    replace gw := same_new nb (o := .lst (nm3.map V.str)) _ _ gw
    have b2 : (upd G lb (.lst (nm3.map V.str))) lb = some (.lst (nm3.map V.str)) := upd_same
    clear a2
    generalize upd G lb (.lst (nm3.map V.str)) = G2 at k2 pn dq h2 d2 t2 r2' gw b2
    -- the stones
    refine ⟨.ref lb, rfl, .ref p, rfl, .ref b, rfl, .inr (.inl ⟨b, _, 2, .int ss, rfl, rfl, KpN.sqT (N := (· ≠ p)) k2 bp hb, rfl, ?_⟩)⟩
    refine ⟨p, qc, ss + 1, n + 40, rfl, pn, by omega, by omega, by omega, fun e3 G3 e30 e31 k3 p3 => ?_⟩
    have h3 := k3 _ _ oh h2
    have d3 := k3 _ _ od d2
    have t3 := k3 _ _ os t2
    have r3 := k3 _ _ or' r2'
    have gw3 := k3 _ _ ow gw
    have b3 := k3 _ _ ob b2
    have dq3 := dq.kp k3
    replace k2 := k2.trans k3
    clear k3 h2 d2 t2 r2' gw b2 dq pn
    refine ⟨e3, rfl, .inl ⟨lb, nm3.map V.str, rfl, .inl (.inl b3), fun lc nc => ?_⟩⟩
    rw [cutV_to e30, ← List.map_take]
    refine ⟨lc, nm3.take e3.toNat, rfl, .inl (.inl upd_same), by rw [List.length_take]; omega, fun sn ld sperm ssort nld => ?_⟩
    have s4 : Same G3 (upd (upd G3 lc (.lst ((nm3.take e3.toNat).map V.str))) ld (.lst (sn.map V.str))) := (same_new nc).trans (same_new nld)
    have e4 : (upd (upd G3 lc (.lst ((nm3.take e3.toNat).map V.str))) ld (.lst (sn.map V.str))) ld = some (.lst (sn.map V.str)) := upd_same
    have old : ld ≠ p := (p3.same (same_new nc)).off nld
    have sld : st ≠ ld := ne_of_none (same_new nc _ _ t3) nld
    replace k2 := (k2.new nc (o := .lst ((nm3.take e3.toNat).map V.str))).new nld (o := .lst (sn.map V.str))
    replace p3 := p3.same s4
    replace dq3 := dq3.mono s4
    replace h3 := s4 _ _ h3
    replace d3 := s4 _ _ d3
    replace t3 := s4 _ _ t3
    replace r3 := s4 _ _ r3
    replace gw3 := s4 _ _ gw3
    replace b3 := s4 _ _ b3
    clear s4 nc nld
    generalize upd (upd G3 lc (.lst ((nm3.take e3.toNat).map V.str))) ld (.lst (sn.map V.str)) = G4 at k2 p3 dq3 h3 d3 t3 r3 gw3 b3 e4
    have snl : sn.length ≤ ss := by
      have := sperm.length_eq
      rw [List.length_take] at this
      omega
    have snd : sn.Nodup := by
      refine sperm.nodup_iff.mpr (List.Nodup.sublist (List.take_sublist _ _) ?_)
      rw [← hnm3]
      exact nd.sublist ((List.drop_sublist _ _).trans (List.drop_sublist _ _))
    refine ⟨ld, rfl, ⟨_, .inl (.inl e4)⟩, ?_⟩
    refine for_list (a := ld) (xs := sn.map V.str) (fun i σ G => ∃ (d5 : Option V) (stn : List (Str × Int)), σ = [some (.ref p), some (.ref lb), some (.ref b), some (.ref h), d4, d5, none, none, none, none, none, none, none] ∧ KpN (fun x => x ≠ p ∧ x ≠ st) G4 G ∧ Pen K G p qc (n + 41 + i) ∧ G st = some (.dK (stonesKv stn)) ∧ stn.map Prod.fst = sn.take i ∧ ∀ x ∈ stn, 0 ≤ x.2 ∧ x.2 ≤ 9999999)
      ⟨_, [], rfl, KpN.refl _ _, p3.le (by omega), t3, rfl, by simp⟩ (fun i σ G _ pv => ?_) (fun i x σ G hx pv => ?_) (fun σ G pv => ?_)
    · obtain ⟨d5, stn, rfl, k, pn, gs, sn1, sn2⟩ := pv
      exact k.sqL ⟨old, sld.symm⟩ (.inl (.inl e4))
    · obtain ⟨d5, stn, rfl, k, pn, gs, sn1, sn2⟩ := pv
      rw [List.getElem?_map] at hx
      obtain ⟨nm, hnm, rfl⟩ := Option.map_eq_some_iff.mp hx
      have hi : i < sn.length := (List.getElem?_eq_some_iff.mp hnm).1
      have stl : stn.length = i := by
        have e2 := congrArg List.length sn1
        rw [List.length_map, List.length_take] at e2
        omega
      refine ⟨.ref p, rfl, p, qc, _, rfl, pn, by omega, fun hf G5 f0 f1 k5 p5 => ?_⟩
      have hG := k5 _ _ oh (k _ _ ⟨oh, hs⟩ h3)
      refine ⟨.ref h, rfl, h, .ref st, rfl, DGet.k (k := .inr "stones") hG, .str nm, rfl, st, _, rfl, DPut.k (k := .inr nm) (k5 _ _ os gs) ?_, ?_⟩
      · unfold stonesKv
        rw [List.length_map]
        exact small1000000 (by omega)
      have fresh : valV (stonesKv stn) (.inr nm) = none := valV_off fun m => by
        rw [stonesKv_keys, sn1] at m
        have := (List.getElem?_eq_some_iff.mp hnm).2
        exact not_in_take snd hi (this ▸ inr_in m)
      refine ⟨_, stn ++ [(nm, hf)], rfl, (k.kp (fun _ z => z.1) k5).wr (fun z => z.2 rfl), (p5.wr hp zs).le (by omega), ?_, ?_, ?_⟩
      · rw [upd_same, putK_new _ fresh]
        unfold stonesKv
        rw [List.map_append]
        rfl
      · rw [List.map_append, sn1, take_snoc hnm]
        rfl
      · intro x hx
        rcases List.mem_append.mp hx with hx | hx
        · exact sn2 x hx
        · rw [List.mem_singleton.mp hx]
          exact ⟨f0, f1⟩
    obtain ⟨d5, stn, rfl, k, pn, gs, sn1, sn2⟩ := pv
    rw [List.length_map] at pn sn1
    rw [List.take_length] at sn1
    have h5 := k _ _ ⟨oh, hs⟩ h3
    have d6 := k _ _ ⟨od, hds⟩ d3
    have r5 := k _ _ ⟨or', sr'.symm⟩ r3
    have gw5 := k _ _ ⟨ow, sw'.symm⟩ gw3
    have b5 := k _ _ ⟨ob, sbl.symm⟩ b3
    have dq5 : DqAll (· ≠ p) K G wvs (ws.map WalkH.data) := DqAll.moveD (fun _ z => z) (fun x o nx no ex => k x o ⟨nx, fun z => by rw [z, t3] at ex; exact no _ (Option.some.inj ex).symm⟩ ex) _ _ (walks_noDict ws) dq3
    have k6 : Kp p H G := fun x o nx ex => k _ _ ⟨nx, fun z => by rw [z, zs] at ex; cases ex⟩ (k2 _ _ nx ex)
    clear k k2 h3 d3 t3 r3 gw3 b3 dq3 e4 p3
    replace pn := pn.le (m := n + 60) (by omega)
    have wl1 : wvs.length = ws.length := by rw [dq5.length, List.length_map]
    have stnl : stn.length = sn.length := by rw [← sn1, List.length_map]
    have wsl : ws.length ≤ sw := by
      have := congrArg List.length wn
      rw [List.length_map, List.length_take] at this
      omega
    -- rooms, hefts
    refine ⟨.ref h, rfl, h, .ref r, rfl, DGet.k (k := .inr "rooms") h5, .ref h, rfl, h, .ref wl, rfl, DGet.k (k := .inr "walkers") h5, wl, rfl, ⟨_, .inl (.inl gw5)⟩, fun D nD => ?_⟩
    refine lc_list (a := wl) (xs := wvs) (fun i G' => Same G G' ∧ G' D = some (.lst ((ws.take i).map fun x => V.int x.heft))) ⟨same_new nD, upd_same⟩ (fun i G' _ pv => .inl (.inl (pv.1 _ _ gw5))) (fun i x G' hx pv => ?_) (fun G' pv => ?_)
    · obtain ⟨sm, gD⟩ := pv
      obtain ⟨dd, hdd, dqx⟩ := dq5.get hx
      rw [List.getElem?_map] at hdd
      obtain ⟨wk1, hwk, rfl⟩ := Option.map_eq_some_iff.mp hdd
      obtain ⟨tt, rfl, _, ett⟩ := walk_inv dqx
      refine ⟨rfl, ?_⟩
      refine yes_if ?_
      refine ⟨_, rfl, .inr (.inl ⟨tt, _, 1, .int wk1.heft, rfl, rfl, sqT_at (fun o => sm _ o) ett, rfl, _, gD, ?_, same_mut sm nD, ?_⟩)⟩
      · rw [List.length_map, List.length_take]
        exact small1000000 (by omega)
      · rw [upd_same, take_snoc hwk, List.map_append]
        rfl
    obtain ⟨sm, gD⟩ := pv
    have wlt : ws.take wvs.length = ws := by rw [wl1, List.take_length]
    rw [wlt] at gD
    refine ⟨_, _, rfl, ?_⟩
    have h6 := sm _ _ h5
    have d7 := sm _ _ d6
    have r6 := sm _ _ r5
    have gw6 := sm _ _ gw5
    have b6 := sm _ _ b5
    have gs6 := sm _ _ gs
    have dq6 := dq5.mono sm
    have p6 := pn.same sm
    have k7 : Kp p H G' := fun x o nx ex => sm _ _ (k6 _ _ nx ex)
    clear sm h5 d6 r5 gw5 b5 gs dq5 pn k6 nD
    -- all hefts
    refine ⟨.ref D, rfl, .ref h, rfl, h, .ref st, rfl, DGet.k (k := .inr "stones") h6, st, _, rfl, gs6, fun lv nlv => ?_⟩
    have ev : (stonesKv stn).map (fun kv => kv.2) = stn.map fun x => V.int x.2 := by
      unfold stonesKv
      rw [List.map_map]
      rfl
    rw [ev]
    refine .inl ⟨D, lv, ws.map (fun x => V.int x.heft), stn.map (fun x => V.int x.2), rfl, rfl, same_new nlv _ _ gD, upd_same, by rw [List.length_map, List.length_map, sizeLine_eq]; omega, fun lf nlf => ?_⟩
    have ehs : ws.map (fun x => V.int x.heft) ++ stn.map (fun x => V.int x.2) = (ws.map WalkH.heft ++ stn.map Prod.snd).map V.int := by
      rw [List.map_append, List.map_map, List.map_map]
      rfl
    rw [ehs]
    have hhs : ∀ z ∈ ws.map WalkH.heft ++ stn.map Prod.snd, 0 ≤ z ∧ z ≤ 9999999 := fun z hz => by
      rcases List.mem_append.mp hz with hz | hz
      · obtain ⟨x, hx, rfl⟩ := List.mem_map.mp hz
        exact ⟨(wk x hx).1, (wk x hx).2.1⟩
      · obtain ⟨x, hx, rfl⟩ := List.mem_map.mp hz
        exact sn2 x hx
    have lhs : (ws.map WalkH.heft ++ stn.map Prod.snd).length ≤ 40 := by rw [List.length_append, List.length_map, List.length_map]; omega
    generalize ws.map WalkH.heft ++ stn.map Prod.snd = hefts at nlf hhs lhs
    have s7 : Same G' (upd (upd G' lv (.lst (stn.map fun x => V.int x.2))) lf (.lst (hefts.map V.int))) := (same_new nlv).trans (same_new nlf)
    have f7 : (upd (upd G' lv (.lst (stn.map fun x => V.int x.2))) lf (.lst (hefts.map V.int))) lf = some (.lst (hefts.map V.int)) := upd_same
    have of7 : lf ≠ p := (p6.same (same_new nlv)).off nlf
    have dlf : d ≠ lf := ne_of_none (same_new nlv _ _ d7) nlf
    replace h6 := s7 _ _ h6
    replace d7 := s7 _ _ d7
    replace r6 := s7 _ _ r6
    replace gw6 := s7 _ _ gw6
    replace b6 := s7 _ _ b6
    replace gs6 := s7 _ _ gs6
    replace dq6 := dq6.mono s7
    replace p6 := p6.same s7
    replace k7 := (k7.new nlv (o := .lst (stn.map fun x => V.int x.2))).new nlf (o := .lst (hefts.map V.int))
    clear s7 nlv nlf gD ehs ev
    generalize upd (upd G' lv (.lst (stn.map fun x => V.int x.2))) lf (.lst (hefts.map V.int)) = G7 at h6 d7 r6 gw6 b6 gs6 dq6 p6 k7 f7
    -- which names the doors have
    have rl1 : 1 ≤ rooms.length := by
      have := rperm.length_eq
      rw [List.length_take] at this
      omega
    have rl2 : rooms.length ≤ sr := by
      have := rperm.length_eq
      rw [List.length_take] at this
      omega
    have rnd : rooms.Nodup := rperm.nodup_iff.mpr (nd.sublist (List.take_sublist _ _))
    refine ⟨.ref lb, rfl, .ref b, rfl, .inr (.inl ⟨b, _, 2, .int ss, rfl, rfl, KpN.sqT (N := (· ≠ p)) k7 bp hb, rfl, ss, rfl, .inl ⟨lb, nm3.map V.str, rfl, .inl (.inl b6), fun le nle => ?_⟩⟩)⟩
    rw [cutV_from (by omega), Int.toNat_natCast, ← List.map_drop]
    have g8 := same_new nle (o := .lst ((nm3.drop ss).map V.str))
    have e8 : (upd G7 le (.lst ((nm3.drop ss).map V.str))) le = some (.lst ((nm3.drop ss).map V.str)) := upd_same
    have oe := p6.off nle
    replace h6 := g8 _ _ h6
    replace d7 := g8 _ _ d7
    replace r6 := g8 _ _ r6
    replace gw6 := g8 _ _ gw6
    replace gs6 := g8 _ _ gs6
    replace f7 := g8 _ _ f7
    replace dq6 := dq6.mono g8
    replace p6 := p6.same g8
    replace k7 := k7.new nle (o := .lst ((nm3.drop ss).map V.str))
    clear g8 nle b6
    generalize upd G7 le (.lst ((nm3.drop ss).map V.str)) = G8' at h6 d7 r6 gw6 gs6 f7 dq6 p6 k7 e8
    refine ⟨.ref p, rfl, .ref b, rfl, .inr (.inl ⟨b, _, 1, .int sd, rfl, rfl, KpN.sqT (N := (· ≠ p)) k7 bp hb, rfl, ?_⟩)⟩
    refine ⟨p, qc, sd + 1, n + 60, rfl, p6, by omega, by omega, by omega, fun e4 G9' e40 e41 k8 p8 => ?_⟩
    replace h6 := k8 _ _ oh h6
    replace d7 := k8 _ _ od d7
    replace r6 := k8 _ _ or' r6
    replace gw6 := k8 _ _ ow gw6
    replace gs6 := k8 _ _ os gs6
    replace f7 := k8 _ _ of7 f7
    replace e8 := k8 _ _ oe e8
    replace dq6 := dq6.kp k8
    replace k7 := k7.trans k8
    clear k8 p6
    refine ⟨.ref r, rfl, .inl ⟨_, .inl (.inl (.inl r6)), _, 1, rfl, rfl, .inr ⟨_, rfl, ?_⟩⟩⟩
    generalize hcc : (if decide ((1 : Int) < ((rooms.map V.str).length : Int)) = true then (1 : Int) else 0) = cc
    have c01 : (cc = 0 ∧ rooms.length = 1) ∨ (cc = 1 ∧ 2 ≤ rooms.length) := by
      rw [List.length_map] at hcc
      by_cases z : (1 : Int) < (rooms.length : Int)
      · rw [decide_eq_true z, if_pos rfl] at hcc
        exact .inr ⟨hcc.symm, by omega⟩
      · rw [decide_eq_false z, if_neg Bool.false_ne_true] at hcc
        exact .inl ⟨hcc.symm, by omega⟩
    refine ⟨.inr ⟨by omega, by omega⟩, e4 * cc, rfl, .inl ⟨le, (nm3.drop ss).map V.str, rfl, .inl (.inl e8), fun lg nlg => ?_⟩⟩
    generalize hdc : e4 * cc = dc at nlg
    have dc0 : 0 ≤ dc ∧ dc ≤ sd ∧ (rooms.length = 1 → dc = 0) := by
      rcases c01 with ⟨rfl, z⟩ | ⟨rfl, z⟩
      · rw [Int.mul_zero] at hdc
        omega
      · rw [Int.mul_one] at hdc
        omega
    rw [cutV_to dc0.1, ← List.map_take]
    have nl4 : (nm3.drop ss).length = nm3.length - ss := List.length_drop
    refine ⟨lg, (nm3.drop ss).take dc.toNat, rfl, .inl (.inl upd_same), by rw [List.length_take]; omega, fun dn lh dperm dsort nlh => ?_⟩
    have s9 : Same G9' (upd (upd G9' lg (.lst (((nm3.drop ss).take dc.toNat).map V.str))) lh (.lst (dn.map V.str))) := (same_new nlg).trans (same_new nlh)
    have e9 : (upd (upd G9' lg (.lst (((nm3.drop ss).take dc.toNat).map V.str))) lh (.lst (dn.map V.str))) lh = some (.lst (dn.map V.str)) := upd_same
    have olh : lh ≠ p := (p8.same (same_new nlg)).off nlh
    have dlh : d ≠ lh := ne_of_none (same_new nlg _ _ d7) nlh
    replace k7 := (k7.new nlg (o := .lst (((nm3.drop ss).take dc.toNat).map V.str))).new nlh (o := .lst (dn.map V.str))
    replace p8 := p8.same s9
    replace dq6 := dq6.mono s9
    replace h6 := s9 _ _ h6
    replace d7 := s9 _ _ d7
    replace r6 := s9 _ _ r6
    replace gw6 := s9 _ _ gw6
    replace gs6 := s9 _ _ gs6
    replace f7 := s9 _ _ f7
    clear s9 nlg nlh e8
    generalize upd (upd G9' lg (.lst (((nm3.drop ss).take dc.toNat).map V.str))) lh (.lst (dn.map V.str)) = Gs at k7 p8 dq6 h6 d7 r6 gw6 gs6 f7 e9
    have dnl : dn.length ≤ sd := by
      have := dperm.length_eq
      rw [List.length_take] at this
      omega
    have dn1 : rooms.length = 1 → dn = [] := fun z => by
      have := dperm.length_eq
      rw [List.length_take] at this
      have := dc0.2.2 z
      exact List.eq_nil_of_length_eq_zero (by omega)
    have dnd : dn.Nodup := by
      refine dperm.nodup_iff.mpr (List.Nodup.sublist ((List.take_sublist _ _).trans (List.drop_sublist _ _)) ?_)
      rw [← hnm3]
      exact nd.sublist ((List.drop_sublist _ _).trans (List.drop_sublist _ _))
    refine ⟨lh, rfl, ⟨_, .inl (.inl e9)⟩, ?_⟩
    refine for_list (a := lh) (xs := dn.map V.str) (fun i σ G => ∃ (d5 d8 d9 d10 d11 d12 : Option V) (drs : List DoorH) (dkv : List (Key × V)), σ = [some (.ref p), some (.ref lb), some (.ref b), some (.ref h), d4, d5, some (.ref r), some (.ref lf), d8, d9, d10, d11, d12] ∧ KpN (fun x => x ≠ p ∧ x ≠ d) Gs G ∧ Pen K G p qc (n + 61 + 80 * i) ∧ G d = some (.dK dkv) ∧ DqKv (· ≠ p) K G dkv (doorsKv drs) ∧ drs.map DoorH.name = dn.take i ∧ ∀ x ∈ drs, DoorOk rooms x)
      ⟨_, _, _, _, _, _, [], [], rfl, KpN.refl _ _, p8.le (by omega), d7, .nil, rfl, by simp⟩ (fun i σ G _ pv => ?_) (fun i x σ G hx pv => ?_) (fun σ G pv => ?_)
    · obtain ⟨d5, d8, d9, d10, d11, d12, drs, dkv, rfl, k, pn, gd, dqd, dr1, dr2⟩ := pv
      exact k.sqL ⟨olh, dlh.symm⟩ (.inl (.inl e9))
    · obtain ⟨d5, d8, d9, d10, d11, d12, drs, dkv, rfl, k, pn, gd, dqd, dr1, dr2⟩ := pv
      rw [List.getElem?_map] at hx
      obtain ⟨nm, hnm, rfl⟩ := Option.map_eq_some_iff.mp hx
      have hi : i < dn.length := (List.getElem?_eq_some_iff.mp hnm).1
      have two : 2 ≤ rooms.length := by
        rcases Nat.lt_or_ge rooms.length 2 with z | z
        · rw [dn1 (by omega)] at hi
          exact absurd hi (Nat.not_lt_zero _)
        · exact z
      have hz : n + 61 + 80 * i + 80 < 1000000 := by omega
      generalize hm0 : n + 61 + 80 * i = m0 at pn hz
      have rG := k _ _ ⟨or', dr.symm⟩ r6
      have fG := k _ _ ⟨of7, dlf.symm⟩ f7
      have hG := k _ _ ⟨oh, hd⟩ h6
      have lm : ((rooms.map V.str).length : Int) = rooms.length := by rw [List.length_map]
      -- one room, another one
      refine ⟨.ref p, rfl, .ref r, rfl, .inl ⟨_, .inl (.inl (.inl rG)), p, qc, _, _, rfl, pn, by omega, by rw [lm]; omega, by rw [lm]; omega, fun at' G1 a0 a1 k1 p1 => ?_⟩⟩
      rw [lm] at a1
      replace rG := k1 _ _ or' rG
      replace fG := k1 _ _ of7 fG
      replace hG := k1 _ _ oh hG
      replace gd := k1 _ _ od gd
      replace dqd := DqKv.move (N' := fun x => x ≠ p) (fun _ z => z) (fun x o nx e => k1 x o nx e) _ _ dqd
      replace k := k.kp (fun _ z => z.1) k1
      clear k1 pn
      refine ⟨.int at', rfl, .ref p, rfl, .ref r, rfl, .inl ⟨_, .inl (.inl (.inl rG)), _, 1, rfl, rfl, 1, _, rfl, ?_⟩⟩
      generalize hmm : (if ((rooms.map V.str).length : Int) - 1 > 1 then ((rooms.map V.str).length : Int) - 1 else 1) = mm
      have hmm2 : mm = (rooms.length : Int) - 1 := by
        rw [lm] at hmm
        split at hmm <;> omega
      subst hmm2
      refine ⟨p, qc, _, _, rfl, p1, by omega, by omega, by omega, fun fd' G2 f0 f1 k2 p2 => ?_⟩
      replace rG := k2 _ _ or' rG
      replace fG := k2 _ _ of7 fG
      replace hG := k2 _ _ oh hG
      replace gd := k2 _ _ od gd
      replace dqd := DqKv.move (N' := fun x => x ≠ p) (fun _ z => z) (fun x o nx e => k2 x o nx e) _ _ dqd
      replace k := k.kp (fun _ z => z.1) k2
      clear k2 p1
      obtain ⟨j1, rfl⟩ := Int.eq_ofNat_of_zero_le a0
      obtain ⟨j2, hj2⟩ := Int.eq_ofNat_of_zero_le (Int.emod_nonneg ((j1 : Int) + 1 + fd') (show (rooms.length : Int) ≠ 0 by omega))
      have j2l : j2 < rooms.length := by
        have := Int.emod_lt_of_pos ((j1 : Int) + 1 + fd') (show 0 < (rooms.length : Int) by omega)
        omega
      have j12 : j1 ≠ j2 := by
        intro z
        subst z
        have h1 : ((j1 : Int) + 1 + fd') < 2 * rooms.length := by omega
        by_cases w2 : ((j1 : Int) + 1 + fd') < rooms.length
        · rw [Int.emod_eq_of_lt (by omega) w2] at hj2
          omega
        · have e2 : ((j1 : Int) + 1 + fd') % rooms.length = (j1 : Int) + 1 + fd' - rooms.length := by
            rw [← Int.sub_emod_right, Int.emod_eq_of_lt (by omega) (by omega)]
          omega
      have j1l : j1 < rooms.length := by omega
      refine ⟨.ref r, rfl, .int j1, rfl, .inl ⟨r, _, _, .str rooms[j1], rfl, rfl, .inl (.inl rG), atI_in rfl (by rw [List.getElem?_map, List.getElem?_eq_getElem j1l]; rfl), ?_⟩⟩
      refine ⟨.ref r, rfl, .int _, rfl, .ref r, rfl, .inl ⟨_, .inl (.inl (.inl rG)), _, _, rfl, rfl, by rw [lm]; omega, ?_⟩⟩
      refine .inl ⟨r, _, _, .str rooms[j2], rfl, rfl, .inl (.inl rG), atI_in (j := j2) (by rw [lm]; exact hj2) (by rw [List.getElem?_map, List.getElem?_eq_getElem j2l]; rfl), by show 2 ≤ sizeLine; decide, fun le2 nle2 => ?_⟩
      have ole := p2.off nle2
      have dle : d ≠ le2 := ne_of_none gd nle2
      have gE : (upd G2 le2 (.lst [V.str rooms[j1], V.str rooms[j2]])) le2 = some (.lst [V.str rooms[j1], V.str rooms[j2]]) := upd_same
      replace rG := same_new nle2 (o := .lst [V.str rooms[j1], V.str rooms[j2]]) _ _ rG
      replace fG := same_new nle2 (o := .lst [V.str rooms[j1], V.str rooms[j2]]) _ _ fG
      replace hG := same_new nle2 (o := .lst [V.str rooms[j1], V.str rooms[j2]]) _ _ hG
      replace gd := same_new nle2 (o := .lst [V.str rooms[j1], V.str rooms[j2]]) _ _ gd
      replace dqd := DqKv.mono (same_new nle2 (o := .lst [V.str rooms[j1], V.str rooms[j2]])) dqd
      replace k := k.new nle2 (o := .lst [V.str rooms[j1], V.str rooms[j2]])
      replace p2 := p2.same (same_new nle2 (o := .lst [V.str rooms[j1], V.str rooms[j2]]))
      generalize upd G2 le2 (.lst [V.str rooms[j1], V.str rooms[j2]]) = G3 at rG fG hG gd dqd k p2 gE
      -- which way
      refine ⟨by show 3 ≤ sizeLine; decide, fun lw nlw => ?_⟩
      have olw := p2.off nlw
      have gW : (upd G3 lw (.lst [V.str "both", V.str "both", V.str "on"])) lw = some (.lst [V.str "both", V.str "both", V.str "on"]) := upd_same
      replace rG := same_new nlw (o := .lst [V.str "both", V.str "both", V.str "on"]) _ _ rG
      replace fG := same_new nlw (o := .lst [V.str "both", V.str "both", V.str "on"]) _ _ fG
      replace hG := same_new nlw (o := .lst [V.str "both", V.str "both", V.str "on"]) _ _ hG
      replace gd := same_new nlw (o := .lst [V.str "both", V.str "both", V.str "on"]) _ _ gd
      replace gE := same_new nlw (o := .lst [V.str "both", V.str "both", V.str "on"]) _ _ gE
      replace dqd := DqKv.mono (same_new nlw (o := .lst [V.str "both", V.str "both", V.str "on"])) dqd
      replace k := k.new nlw (o := .lst [V.str "both", V.str "both", V.str "on"])
      replace p2 := p2.same (same_new nlw (o := .lst [V.str "both", V.str "both", V.str "on"]))
      generalize upd G3 lw (.lst [V.str "both", V.str "both", V.str "on"]) = G4' at rG fG hG gd dqd k p2 gE gW
      refine ⟨.ref p, rfl, p, qc, 3, _, rfl, p2, by omega, by decide, by decide, fun d3' G5' d30 d31 k3 p3 => ?_⟩
      obtain ⟨wy, hwy, hwo⟩ := at_way d30 d31
      refine .inl ⟨lw, _, d3', .str wy, rfl, rfl, .inl (.inl (k3 _ _ olw gW)), hwy, ?_⟩
      replace rG := k3 _ _ or' rG
      replace fG := k3 _ _ of7 fG
      replace hG := k3 _ _ oh hG
      replace gd := k3 _ _ od gd
      replace gE := k3 _ _ ole gE
      replace dqd := DqKv.move (N' := fun x => x ≠ p) (fun _ z => z) (fun x o nx e => k3 x o nx e) _ _ dqd
      replace k := k.kp (fun _ z => z.1) k3
      clear k3 p2 gW
      have apart : rooms[j1] ≠ rooms[j2] := fun z => j12 (nodup_get rnd j1l j2l z)
      refine ⟨fun σ G' => ∃ (lx : Addr) (x y : Str), σ = [some (.ref p), some (.ref lb), some (.ref b), some (.ref h), d4, some (.str nm), some (.ref r), some (.ref lf), some (.int j1), some (.int (j1 + 1 + fd')), some (.ref lx), some (.str wy), d12] ∧ Same G5' G' ∧ G' lx = some (.lst [V.str x, V.str y]) ∧ x ∈ rooms ∧ y ∈ rooms ∧ x ≠ y ∧ (wy = "both" → sortedS [x, y] = true), ?_, ?_⟩
      · refine ⟨.str wy, rfl, .inl ⟨rfl, _, rfl, ite2 (fun e => ?_) (fun e => ⟨le2, _, _, rfl, Same.refl _, gE, List.getElem_mem j1l, List.getElem_mem j2l, apart, fun z => absurd (decide_eq_true (by rw [z])) e⟩)⟩⟩
        refine ⟨.ref le2, rfl, le2, [rooms[j1], rooms[j2]], rfl, .inl (.inl gE), by show 2 < 64; decide, fun ys ly yp ysort nly => ?_⟩
        obtain ⟨x, y, rfl, hxy⟩ := two_of yp
        refine ⟨ly, x, y, rfl, same_new nly, upd_same, ?_⟩
        rcases hxy with ⟨rfl, rfl⟩ | ⟨rfl, rfl⟩
        · exact ⟨List.getElem_mem j1l, List.getElem_mem j2l, apart, fun _ => ysort⟩
        · exact ⟨List.getElem_mem j2l, List.getElem_mem j1l, apart.symm, fun _ => ysort⟩
      rintro σ6 G6' ⟨lx, x, y, rfl, sm, gx, xm, ym, xy, srt⟩
      replace rG := sm _ _ rG
      replace fG := sm _ _ fG
      replace hG := sm _ _ hG
      replace gd := sm _ _ gd
      replace dqd := DqKv.mono sm dqd
      replace k : KpN (fun x => x ≠ p ∧ x ≠ d) Gs G6' := fun z o nz ez => sm _ _ (k z o nz ez)
      replace p3 := p3.same sm
      clear sm gE
      refine ⟨.ref lx, rfl, .inl ⟨lx, _, 0, .str x, rfl, rfl, .inl (.inl gx), rfl, .ref lx, rfl, .inl ⟨lx, _, 1, .str y, rfl, rfl, .inl (.inl gx), rfl, ?_⟩⟩⟩
      refine ⟨.str wy, rfl, .ref p, rfl, .ref r, rfl, .ref lf, rfl, p, r, lf, qc, _, rooms, hefts, rfl, p3, by omega, by omega, lhs, or', .inl (.inl rG), of7, fG, hhs, fun t rs G8 rok k8 p8 nt dqt => ?_⟩
      refine ⟨by show 4 ≤ sizeLine; decide, fun l9 n9 => ?_⟩
      have o9 := p8.off n9
      replace hG := same_new n9 (o := .tup [V.str x, V.str y, V.str wy, V.ref t]) _ _ (k8 _ _ oh hG)
      replace gd := same_new n9 (o := .tup [V.str x, V.str y, V.str wy, V.ref t]) _ _ (k8 _ _ od gd)
      replace dqd := DqKv.mono (same_new n9 (o := .tup [V.str x, V.str y, V.str wy, V.ref t])) (DqKv.move (N' := fun x => x ≠ p) (fun _ z => z) (fun x o nx e => k8 x o nx e) _ _ dqd)
      replace dqt := Dq.mono (same_new n9 (o := .tup [V.str x, V.str y, V.str wy, V.ref t])) dqt
      replace k := (k.kp (fun _ z => z.1) k8).new n9 (o := .tup [V.str x, V.str y, V.str wy, V.ref t])
      replace p8 := p8.same (same_new n9 (o := .tup [V.str x, V.str y, V.str wy, V.ref t]))
      have g9 : (upd G8 l9 (.tup [V.str x, V.str y, V.str wy, V.ref t])) l9 = some (.tup [V.str x, V.str y, V.str wy, V.ref t]) := upd_same
      generalize upd G8 l9 (.tup [V.str x, V.str y, V.str wy, V.ref t]) = G9'' at hG gd dqd dqt k p8 g9
      have dl : drs.length = i := by
        have := congrArg List.length dr1
        rw [List.length_map, List.length_take] at this
        omega
      have dkl : dkv.length = drs.length := by
        have := congrArg List.length dqd.keys
        rw [List.length_map, List.length_map] at this
        unfold doorsKv at this
        rw [List.length_map] at this
        exact this.symm
      refine ⟨.ref h, rfl, h, .ref d, rfl, DGet.k (k := .inr "doors") hG, .str nm, rfl, d, _, rfl, DPut.k (k := .inr nm) gd (small1000000 (by omega)), ?_⟩
      have fresh : valV dkv (.inr nm) = none := doors_fresh dqd (by
        rw [dr1]
        have := (List.getElem?_eq_some_iff.mp hnm).2
        exact this ▸ not_in_take dnd hi)
      have dx : DoorOk rooms ⟨nm, x, y, wy, rs⟩ := ⟨xm, ym, xy, by
        rcases hwo with rfl | rfl
        · exact .inl ⟨rfl, srt rfl⟩
        · exact .inr rfl, rok⟩
      refine ⟨_, _, _, _, _, _, drs ++ [⟨nm, x, y, wy, rs⟩], dkv ++ [(.inr nm, .ref l9)], rfl, k.wr (fun z => z.2 rfl), (p8.wr hp zd).le (by omega), by rw [upd_same, putK_new _ fresh], ?_, ?_, ?_⟩
      · have e : doorsKv (drs ++ [⟨nm, x, y, wy, rs⟩]) = doorsKv drs ++ [(keyD (.inr nm), (DoorH.mk nm x y wy rs).data)] := by
          unfold doorsKv
          rw [List.map_append]
          rfl
        rw [e]
        have two' : DqKv (· ≠ p) K G9'' (dkv ++ [(.inr nm, .ref l9)]) (doorsKv drs ++ [(keyD (.inr nm), (DoorH.mk nm x y wy rs).data)]) := DqKv.snoc dqd (.tup o9 (.inl (.inl g9)) (.cons (.str _) (.cons (.str _) (.cons (.str _) (.cons dqt .nil)))))
        rw [← e] at two' ⊢
        exact DqKv.moveD (fun _ z => z) (fun z o nz no ez => by
          have : z ≠ d := fun q => by rw [q, gd] at ez; exact no _ (Option.some.inj ez).symm
          rw [upd_ne this]
          exact ez) _ _ two'
      · rw [List.map_append, dr1, take_snoc hnm]
        rfl
      · intro z hz
        rcases List.mem_append.mp hz with hz | hz
        · exact dr2 z hz
        · rw [List.mem_singleton.mp hz]
          exact dx
    · obtain ⟨d5, d8, d9, d10, d11, d12, drs, dkv, rfl, k, pn, gd, dqd, dr1, dr2⟩ := pv
      rw [List.length_map] at pn dr1
      rw [List.take_length] at dr1
      have hG := k _ _ ⟨oh, hd⟩ h6
      have drl : drs.length = dn.length := by rw [← dr1, List.length_map]
      have dqw : DqAll (· ≠ p) K G wvs (ws.map WalkH.data) := DqAll.moveD (fun _ z => z) (fun z o nz no ez => k z o ⟨nz, fun q => by rw [q, d7] at ez; exact no _ (Option.some.inj ez).symm⟩ ez) _ _ (walks_noDict ws) dq6
      have kk : Kp p H G := fun z o nz ez => k _ _ ⟨nz, fun q => by rw [q, zd] at ez; cases ez⟩ (k7 _ _ nz ez)
      refine ⟨.ref h, rfl, q h ⟨rooms, drs, stn, ws⟩ G ?_ ⟨d, st, wl, r, dkv, wvs, oh, od, os, ow, or', hG, gd, dqd, k _ _ ⟨os, hds.symm⟩ gs6, k _ _ ⟨ow, dw.symm⟩ gw6, dqw, k _ _ ⟨or', dr.symm⟩ r6⟩ (fun d' s' w' r' e => by rw [hG] at e; cases e; exact hd) kk (pn.le (by omega)) nh⟩
      have c4 := cut4 (A := rooms) (B := ws.map WalkH.name) (C := stn.map Prod.fst) (D := drs.map DoorH.name) (a := (1 + e).toNat) (b := (1 + e').toNat) (c := e3.toNat) (d := dc.toNat) (sr := sr) (sw := sw) (ss := ss) nd rperm (by omega) (List.Perm.of_eq wn) (by omega) (by rw [sn1, hnm3]; exact sperm) (by omega) (by rw [dr1, hnm3]; exact dperm)
      refine { r1 := rl1, r2 := rl2, r3 := rsort, d0 := fun z => ?_, d2 := by show drs.length ≤ sd; omega, d3 := by show sortedS (drs.map DoorH.name) = true; rw [dr1]; exact dsort, d4 := dr2, s2 := by show stn.length ≤ ss; omega, s3 := by show sortedS (stn.map Prod.fst) = true; rw [sn1]; exact ssort, s4 := sn2, w1 := ?_, w2 := wsl, w3 := wk, n1 := c4.1, n2 := fun x hx => nk _ (c4.2 x hx) }
      · have z2 := dn1 z
        rw [z2] at dr1
        exact List.map_eq_nil_iff.mp dr1
      · have := congrArg List.length wn
        rw [List.length_map, List.length_take] at this
        show 1 ≤ ws.length
        omega
theorem c_hallOf {c : CA} (T : Txt P w K mg base c) (c_law_draw : C8.Cal P w K mg base 1 "_law_draw" (spDraw K) []) (c_law_pick : C8.Cal P w K mg base 2 "_law_pick" (spPick K) []) (c_law_heft : C8.Cal P w K mg base 2 "_law_heft" (spHeft K) []) (c_law_rows : C8.Cal P w K mg base 3 "_law_rows" (spRows K) []) {f : Addr} {fd : FuncData} (F : C8.Def K mg "_law_hall_of" s__law_hall_of f fd) (b : Binds K fd ["pen", "names", "size"] []) : C8.Cal P w K mg base 4 "_law_hall_of" (spHallOf K) [] :=
  cal_imp (c_hallOfD T c_law_draw c_law_pick c_law_heft c_law_rows F b) fun vs H Q E h => by
    obtain ⟨p, a, b, qc, n, names, sr, sd, ss, sw, e, g1, g2, g3, g4, g5, g6, g7, g8, g9, g10, g11, g12, q⟩ := h
    exact ⟨p, a, b, qc, n, names, sr, sd, ss, sw, e, g1, g2, g3, g4, g5, g6, g7, g8, g9, g10, g11, g12, fun h x H' o1 o2 _ o3 o4 o5 => q h x H' o1 o2 o3 o4 o5⟩
end
end Wd

set_option Elab.async false
set_option linter.all false
set_option maxRecDepth 100000
set_option maxHeartbeats 4000000
namespace Wd
open PySem PySem.Spec PyProof.Rows L2
abbrev s__law_hall : Stmt := topS 26
theorem sc__law_hall : FnScope ["pen", "size"] ["pen", "size"] (C8.fnScope s__law_hall) := ⟨rfl, rfl, rfl, by decide +kernel, rfl, by decide +kernel, by decide +kernel⟩
section
variable {P : Program} {w : World} {K : PySem.W.Frag} {mg : Str → Option Value} {base : Heap}
def spHall (K : PySem.W.Frag) : Sp := fun vs H Q _ => ∃ (p b : Addr) (qc : Addr × List Int) (n sr sd ss sw : Nat), vs = [.ref p, .ref b] ∧ Pen K H p qc n ∧ n + 2020 < 1000000 ∧ b ≠ p ∧ SqT K H b [.int sr, .int sd, .int ss, .int sw] ∧ sr + sd + ss + sw ≤ 18 ∧ 1 ≤ sr ∧ 1 ≤ sw ∧
  ∀ (h : Addr) (x : HallH) (H' : Hp), HallOk sr sd ss sw x → HallAt (· ≠ p) K H' h x → Kp p H H' → Pen K H' p qc (n + 2020) → H h = none → Q (.ref h) H'
def spHallD (K : PySem.W.Frag) : Sp := fun vs H Q _ => ∃ (p b : Addr) (qc : Addr × List Int) (n sr sd ss sw : Nat), vs = [.ref p, .ref b] ∧ Pen K H p qc n ∧ n + 2020 < 1000000 ∧ b ≠ p ∧ SqT K H b [.int sr, .int sd, .int ss, .int sw] ∧ sr + sd + ss + sw ≤ 18 ∧ 1 ≤ sr ∧ 1 ≤ sw ∧
  ∀ (h : Addr) (x : HallH) (H' : Hp), HallOk sr sd ss sw x → HallAt (· ≠ p) K H' h x → ApartH H' h → Kp p H H' → Pen K H' p qc (n + 2020) → H h = none → Q (.ref h) H'
theorem c_hallD {c : CA} (T : Txt P w K mg base c) (c_law_names : C8.Cal P w K mg base 3 "_law_names" (spNames K) []) (c_law_hall_of : C8.Cal P w K mg base 4 "_law_hall_of" (spHallOfD K) []) {f : Addr} {fd : FuncData} (F : C8.Def K mg "_law_hall" s__law_hall f fd) (b : Binds K fd ["pen", "size"] []) : C8.Cal P w K mg base 5 "_law_hall" (spHallD K) [] := by
  refine C8.cal0 F b .nil sc__law_hall (fun vs H Q E h => ?_) (fun cdv A outer s H vs Q E hr h => ?_)
  · obtain ⟨p, b, qc, n, sr, sd, ss, sw, rfl, _⟩ := h
    rfl
  · obtain ⟨p, b, qc, n, sr, sd, ss, sw, rfl, hp, hn, bp, hb, h18, r1, w1, q⟩ := h
    have hu := hu_of hr
    have hu6 := hu64 hr
    refine ⟨_, (pss_one (ps_ret (C8.pe_c c_law_hall_of hr (by decide) (by rfl) (pa_cons (pv 0) (pa_cons (C8.pe_c c_law_names hr (by decide) (by rfl) (pa_cons (pv 0) (pa_cons (pe_callB (cr_sumG (K := K) rfl) (by rfl) T.b_sum bt_sum (pa_cons (pv 1) pa_nil)) pa_nil))) (pa_cons (pv 1) pa_nil)))))), ?_⟩
    refine ⟨.ref p, rfl, .ref p, rfl, .ref b, rfl, b, [(sr : Int), (sd : Int), (ss : Int), (sw : Int)], rfl, .inr hb, ?_⟩
    have es : ([(sr : Int), (sd : Int), (ss : Int), (sw : Int)] : List Int).sum = ((sr + sd + ss + sw : Nat) : Int) := by
      simp only [List.sum_cons, List.sum_nil]
      omega
    rw [es]
    refine ⟨p, qc, n, sr + sd + ss + sw, rfl, hp, by omega, by omega, h18, fun l xs H1 x1 x2 x3 x4 x5 x6 k1 p1 => ?_⟩
    refine ⟨.ref b, rfl, p, l, b, qc, n + 20, xs, sr, sd, ss, sw, rfl, p1, by omega, x6, .inl (.inl x5), bp, KpN.sqT (N := (· ≠ p)) k1 bp hb, by omega, by omega, x2, x3, r1, w1, fun h x H2 ok at' ap k2 p2 nh => ?_⟩
    have oh : h ≠ p := p1.off nh
    exact q h x H2 ok at' ap (k1.trans k2) p2 (k1.free oh nh)
theorem c_hall {c : CA} (T : Txt P w K mg base c) (c_law_names : C8.Cal P w K mg base 3 "_law_names" (spNames K) []) (c_law_hall_of : C8.Cal P w K mg base 4 "_law_hall_of" (spHallOf K) []) {f : Addr} {fd : FuncData} (F : C8.Def K mg "_law_hall" s__law_hall f fd) (b : Binds K fd ["pen", "size"] []) : C8.Cal P w K mg base 5 "_law_hall" (spHall K) [] := by
  refine C8.cal0 F b .nil sc__law_hall (fun vs H Q E h => ?_) (fun cdv A outer s H vs Q E hr h => ?_)
  · obtain ⟨p, b, qc, n, sr, sd, ss, sw, rfl, _⟩ := h
    rfl
  · obtain ⟨p, b, qc, n, sr, sd, ss, sw, rfl, hp, hn, bp, hb, h18, r1, w1, q⟩ := h
    have hu := hu_of hr
    have hu6 := hu64 hr
    refine ⟨_, (pss_one (ps_ret (C8.pe_c c_law_hall_of hr (by decide) (by rfl) (pa_cons (pv 0) (pa_cons (C8.pe_c c_law_names hr (by decide) (by rfl) (pa_cons (pv 0) (pa_cons (pe_callB (cr_sumG (K := K) rfl) (by rfl) T.b_sum bt_sum (pa_cons (pv 1) pa_nil)) pa_nil))) (pa_cons (pv 1) pa_nil)))))), ?_⟩
    refine ⟨.ref p, rfl, .ref p, rfl, .ref b, rfl, b, [(sr : Int), (sd : Int), (ss : Int), (sw : Int)], rfl, .inr hb, ?_⟩
    have es : ([(sr : Int), (sd : Int), (ss : Int), (sw : Int)] : List Int).sum = ((sr + sd + ss + sw : Nat) : Int) := by
      simp only [List.sum_cons, List.sum_nil]
      omega
    rw [es]
    refine ⟨p, qc, n, sr + sd + ss + sw, rfl, hp, by omega, by omega, h18, fun l xs H1 x1 x2 x3 x4 x5 x6 k1 p1 => ?_⟩
    refine ⟨.ref b, rfl, p, l, b, qc, n + 20, xs, sr, sd, ss, sw, rfl, p1, by omega, x6, .inl (.inl x5), bp, KpN.sqT (N := (· ≠ p)) k1 bp hb, by omega, by omega, x2, x3, r1, w1, fun h x H2 ok at' k2 p2 nh => ?_⟩
    have oh : h ≠ p := p1.off nh
    exact q h x H2 ok at' (k1.trans k2) p2 (k1.free oh nh)
end
end Wd

set_option Elab.async false
set_option linter.all false
set_option maxRecDepth 100000
set_option maxHeartbeats 4000000
/-! sorted(xs, key=lambda x: x[0]): xs a list or a tuple of tuples that begin with a text. -/
namespace Wd
open PySem PySem.Spec PyProof.Rows L2 PySem.W
section
variable {prog : Program} {w : World} {A : Around} {E : Value → Shared → Prop} {s : Shared}
/-- sorted by its own list.sort, of a list or a tuple -/
theorem sorted_seq {T : String} {l : Addr} {o : Obj} {vs : List Value} {n : Nat} {kw : List (Str × Value)} {Q : Value → Shared → Prop} (hT : T = "list" ∨ T = "tuple") (ho : s.heap.get? l = some o) (hc : o.cls = .type T) (hd : o.data = .seq vs.toArray n)
    (hL : vs.length ≤ sizeLine) (a1 : argsOk "sorted" ⟨[.ref l], kw⟩) (a2 : ∀ x, argsOk "list.sort" ⟨[.ref x], kw⟩)
    (body : ∀ (h1 : Heap) (E' : Value → Shared → Prop), (∀ b u, s.heap.get? b = some u → h1.get? b = some u) →
      wpAny (model prog w) A.in1.in1 (Builtin.«list.sort» ⟨[.ref h1.objs.size], kw⟩) (fun f s' => f = .done (.ret .none) ∧ Q (.ref h1.objs.size) s') E' { s with heap := h1.push (seqObj "list" vs.toArray 0) }) :
    wpAny (model prog w) A (call (.builtin "sorted") [.ref l] kw) Q E s := by
  refine call_function_entry_kw kind_sorted plain_sorted entry_sorted a1 ?_
  unfold Builtin.«sorted»
  refine wpAny_bind (m := checkCount "sorted" 1 1 _) (wpAny_pure ?_)
  refine wpAny_bind (wpAny_collect_seq (hsz := by rw [List.size_toArray]; exact hL) l hT ho hc hd fun h1 k1 => ?_)
  refine wpAny_bind (wpAny_newList ?_ hL)
  refine wpAny_bind (wpAny_holding (wpAny_call_entry_kw slot_list_sort ⟨_, Heap.get?_push_size _ rfl, rfl⟩ entry_list_sort ?_ (a2 _)))
  refine wpAny_mono (body h1 _ k1) (fun f s' hf => ?_) fun _ _ e => e
  obtain ⟨rfl, hq⟩ := hf
  exact ⟨_, rfl, wpAny_pure ⟨_, rfl, hq⟩⟩
end
section
variable {prog : Program} {w : World} {A : Around} {s : Shared}
/-- (lambda x: x[0])(t), where t is a tuple that begins with a text -/
theorem lam_first {qual x : Str} {params : Arguments} {scope : Scope} {p1 p2 p3 : Pos} {k0 : Nat} {cl : List (Str × Addr)} {pm ctv : Value} {c' q t : Addr} {z : Str} {tz : Tok} {rest : List Value}
    (hroom : A.depth < recursionLimit) (ho : s.heap.get? q = some (kla_obj "<lambda>" qual params (.Subscript (.Name x p1) (.Constant (.int 0) k0 p2) p3) scope cl pm c' ctv)) (hcd : s.heap.CodeRec (.ref c') qual) (nl : s.heap.NoLimit)
    (ht : IsTup s.heap t (Value.str z tz :: rest).toArray) (hbd : ∀ v, bindArgs (kla_fn "<lambda>" qual params (.Subscript (.Name x p1) (.Constant (.int 0) k0 p2) p3) scope cl pm (.ref c') ctv) ⟨[v], []⟩ = pure [(x, v)])
    (hk : scope.kind = .function) (hco : scope.isCoroutine = false) (hgen : scope.isGenerator = false) (hcell : ∀ y ∈ scope.names, y.2 ≠ .cell) (hx : scope.names.lookup x = some .local) (hdb : (x == ("__debug__" : Str)) = false) :
    wpAny (model prog w) A (call (.ref q) [.ref t]) (KeyPure (.str z) s) (fun _ _ => False) s := by
  refine wpAny_call (kla_callFunE hroom ho rfl hco hgen rfl hcd ?_)
  rw [hbd]
  refine wpAny_pure (wpAny_newFunctionEnv hcell (fun y hy => ?_) (fun h1 hns hsb => ⟨nl.fresh _ hsb, ?_⟩) hk)
  · rw [List.mem_singleton.mp hy]
    exact hx
  have k1 : ∀ b o, s.heap.get? b = some o → h1.get? b = some o := fun b o e => hsb.extBut b o (Nat.ne_of_lt (Heap.lt_size e)) (Heap.get?_push_of_some _ e)
  have ht1 : IsTup h1 t (Value.str z tz :: rest).toArray := by
    obtain ⟨o, e, r⟩ := ht
    exact ⟨o, k1 _ _ e, r⟩
  refine kla_codeExpr ?_
  refine Subscript_ ?_
  refine wpAny_Name ?_ hdb
  refine wpAny_loadName_local hk hx hns (show [(x, Value.ref t)].reverse.lookup x = some (Value.ref t) by simp) ?_
  refine wpAny_Constant_int ?_
  refine subscriptTail_builtin ht1.typeIs slot_tuple_getitem.lookup ?_
  refine getItem_tuple ht1 (j := 0) (x := Value.str z tz) (by decide) (by decide) ?_ rfl ?_
  · show seqIndex? 0 _ = some 0
    unfold seqIndex?
    rw [List.size_toArray, List.length_cons]
    simp
  · exact ⟨_, _, rfl, k1, .str z tz⟩
end
/-- texts as Python orders them: x isn't behind y -/
def strLe {β : Type} (key : β → Str) : β → β → Bool := dataLe false fun x => PyData.str (key x)
section
variable {X : Cx} {pins : List (Addr × Obj)} {σ : L2.St} {H : Hp} {s : Shared}
theorem each_of_vals : ∀ {xs : List (V × Str)} {vs : List Value}, Vals (xs.map Prod.fst) vs → EachIs (fun u (x : V × Str) => RelV x.1 u) vs xs
  | [], _, .nil => .nil
  | _ :: _, _, .cons h r => .cons h (each_of_vals r)
theorem vals_of_each : ∀ {xs : List (V × Str)} {vs : List Value}, EachIs (fun u (x : V × Str) => RelV x.1 u) vs xs → Vals (xs.map Prod.fst) vs
  | _, _, .nil => .nil
  | _, _, .cons h r => .cons h (vals_of_each r)
theorem seq_obj {a : Addr} {xs : List V} (I : Inv X pins σ H s) (h : SqL X.K H a xs ∨ SqT X.K H a xs) : ∃ (T : String) (o : Obj) (its : List Value) (n : Nat), (T = "list" ∨ T = "tuple") ∧ s.heap.get? a = some o ∧ o.cls = .type T ∧ o.data = .seq its.toArray n ∧ Vals xs its ∧ xs.length ≤ sizeLine := by
  rcases h with h | h
  · obtain ⟨its, rv, pl, hz⟩ := I.list h
    obtain ⟨o, ho, hc, n, hd⟩ := pl.isList
    exact ⟨_, o, its, n, .inl rfl, ho, hc, hd, rv, hz⟩
  · obtain ⟨its, rv, pl, hz⟩ := I.tuple h
    obtain ⟨o, ho, hc, n, hd⟩ := pl
    exact ⟨_, o, its, n, .inr rfl, ho, hc, hd, rv, hz⟩
/-- sorted(xs, key=f): f tells a text of each thing and keeps all that was there -/
theorem sorted_keyI {a q : Addr} {xs : List (V × Str)} {Q : VK} (I : Inv X pins σ H s) (hs : SqL X.K H a (xs.map Prod.fst) ∨ SqT X.K H a (xs.map Prod.fst)) (hu : X.A.units + 64 < cLine)
    (turn : ∀ (u : Value) (x : V × Str), RelV x.1 u → x ∈ xs → ∀ (h : Heap) (tk : Nat), (∀ b o, s.heap.get? b = some o → h.get? b = some o) →
      wpAny (model X.prog X.w) X.A.in1.in1 (call (.ref q) [u]) (KeyPure (.str x.2) { s with heap := h, toks := tk }) (fun _ _ => False) { s with heap := h, toks := tk })
    (h : ∀ D, H D = none → Q (.ref D) (upd H D (.lst ((xs.mergeSort (strLe Prod.snd)).map Prod.fst)))) :
    wpAny (model X.prog X.w) X.A (call (.builtin "sorted") [.ref a] [(Str.ofString "key", .ref q)]) (EP X pins σ Q) X.xe s := by
  obtain ⟨T, o, its, n, hT, ho, hc, hd, rv, hz⟩ := seq_obj I hs
  have hl := rv.length
  rw [List.length_map] at hl hz
  have e := each_of_vals rv
  refine sorted_seq hT ho hc hd (by omega) (ksk_s1 _ _) (fun _ => ksk_l1 _ _) fun h1 E' k1 => ?_
  have I1 : Inv X pins σ H { s with heap := h1 } := I.kept (t' := s.toks) k1
  rw [ksk_t1]
  have al : AllAlike (xs.map fun x : V × Str => PyData.str x.2) := AllAlike.of fun _ _ => rfl
  have so : PySem.W.Sortable (xs.map fun x : V × Str => PyData.str x.2) := .inr fun d hd' => by
    obtain ⟨x, _, rfl⟩ := List.mem_map.mp hd'
    exact ⟨fun z => (by cases z), fun _ z => (by cases z)⟩
  have up : ∀ {g : Heap}, KeepsBut h1.objs.size (h1.push (seqObj "list" its.toArray 0)) g → ∀ b o, h1.get? b = some o → g.get? b = some o := fun {g} kp b u eb =>
    kp b u (Nat.ne_of_lt (Heap.lt_size eb)) (Heap.get?_push_of_some _ eb)
  refine keyH_tree (kz := xs.map fun x : V × Str => PyData.str x.2) (s := { s with heap := h1.push (seqObj "list" its.toArray 0) }) (n := 0) (Heap.get?_push_size _ rfl) (by rw [List.length_map]; exact hl) (by omega) al so (fun d hd' => ?_)
    (keyH_turns (s := { s with heap := h1.push (seqObj "list" its.toArray 0) }) (k := fun x : V × Str => PyData.str x.2) e fun v x hR hx g tk kp => turn v x hR hx g tk fun b u eb => up kp b u (k1 b u eb)) fun h' tk out c kp hD ko => ⟨rfl, ?_⟩
  · obtain ⟨x, _, rfl⟩ := List.mem_map.mp hd'
    show X.A.in1.in1.units + 0 < cLine
    have : X.A.in1.in1.units = X.A.units + 2 := rfl
    omega
  · have eo := keyedOut_each (fun x : V × Str => PyData.str x.2) ko e
    have vo : Vals ((xs.mergeSort (strLe Prod.snd)).map Prod.fst) out := vals_of_each eo
    have zo : ((xs.mergeSort (strLe Prod.snd)).map Prod.fst).length ≤ sizeLine := by rw [List.length_map, List.length_mergeSort]; exact hz
    refine ⟨.ref h1.objs.size, upd H h1.objs.size (.lst ((xs.mergeSort (strLe Prod.snd)).map Prod.fst)), I1.laid (t' := tk) (up kp) (Nat.le_refl _) (show ObjOk X.prog X.w _ _ _ (.lst ((xs.mergeSort (strLe Prod.snd)).map Prod.fst)) from ⟨zo, out, c, vo, hD⟩), rfl, h _ (I1.hok.fresh (Nat.le_refl _))⟩
end
/-! ### sorted(e, key=lambda x: x[0]) -/
def tSortKQ (K : PySem.W.Frag) (T : List (Addr × Str)) (Q : VK) : List V → Hp → Prop := fun vs H1 => match vs with
  | [v] => ∃ (a : Addr) (xs : List (V × Str)), v = .ref a ∧ LamX.Tabs T H1 ∧
    ∀ H2, LamX.ExtN H1 H2 → LamX.Tabs T H2 → (SqL K H2 a (xs.map Prod.fst) ∨ SqT K H2 a (xs.map Prod.fst)) ∧ (∀ y ∈ xs, ∃ (t : Addr) (rest : List V), y.1 = .ref t ∧ SqT K H2 t (.str y.2 :: rest)) ∧ ∀ D, H2 D = none → Q (.ref D) (upd H2 D (.lst ((xs.mergeSort (strLe Prod.snd)).map Prod.fst)))
  | _ => False
def tSortK (K : PySem.W.Frag) (T : List (Addr × Str)) (te : TE) : TE := fun σ H Q => te σ H fun v H1 => ∃ (a : Addr) (xs : List (V × Str)), v = .ref a ∧ LamX.Tabs T H1 ∧
  ∀ H2, LamX.ExtN H1 H2 → LamX.Tabs T H2 → (SqL K H2 a (xs.map Prod.fst) ∨ SqT K H2 a (xs.map Prod.fst)) ∧ (∀ y ∈ xs, ∃ (t : Addr) (rest : List V), y.1 = .ref t ∧ SqT K H2 t (.str y.2 :: rest)) ∧ ∀ D, H2 D = none → Q (.ref D) (upd H2 D (.lst ((xs.mergeSort (strLe Prod.snd)).map Prod.fst)))
section
variable {X : Cx}
theorem pe_sortedK {T : List (Addr × Str)} {y : Str} {c P : Addr} {k : Nat} {te : TE} {e : Expr} {params : Arguments} {scope : Scope} {k0 : Nat} {p lpos kpos pos p1 p2 p3 : Pos} {K : PySem.W.Frag} (hcalm : X.calm = true) (he : PE X e te) (hg : Gl X "sorted") (hm : X.mg "sorted" = none)
    (TB : LamX.TabB X.base X.mg c P) (hcode : X.env.code = .ref c) (hmT : (P, X.env.qual ++ "<lambda>") ∈ T) (hu : ∀ z ∈ T, z.1 = P → z.2 = X.env.qual ++ "<lambda>") (hr : Room (k + 2) X.A) 
    (hfree : ∀ z ∈ scope.names, z.2 = .free → ∃ cc, X.env.cells.lookup z.1 = some cc) (hdef : defaultsOf params X.env = ([], []))
    (hbd : ∀ (qual : Str) (cl : List (Str × Addr)) (pm cv ctv v : Value), bindArgs (kla_fn "<lambda>" qual params (.Subscript (.Name y p1) (.Constant (.int 0) k0 p2) p3) scope cl pm cv ctv) ⟨[v], []⟩ = pure [(y, v)])
    (hk : scope.kind = .function) (hco : scope.isCoroutine = false) (hgen : scope.isGenerator = false) (hcell : ∀ z ∈ scope.names, z.2 ≠ .cell) (hx : scope.names.lookup y = some .local) (hdb : (y == ("__debug__" : Str)) = false) (hK : X.K = K := by rfl)
    (hs1 : starEach [e] X.env = (false, eval e X.env) :: starEach [] X.env := by rfl) (hse : backTo pos (starEach [e] X.env) = (false, eval e X.env) :: backTo pos (starEach [] X.env) := by rfl) (hpl : (backTo pos (starEach [e] X.env)).any (·.1) = false := by rfl) :
    PE X (.Call (.Name "sorted" p) [e] [⟨some "key", .Lambda params (.Subscript (.Name y p1) (.Constant (.int 0) k0 p2) p3) scope lpos, kpos⟩] pos) (tSortK K T te) := by
  subst hK
  refine ⟨fun pins s σ H Q I q0 => ?_⟩
  refine wpAny_Call_Name_kw (ld_blt I hg hm bt_sorted ?_)
  refine PyProof.Rows.callWith_kw (thn ((pa_cons he pa_nil (hs := hs1) : PA X [e] (tCons te tNil)).run pos pins s σ H (tSortKQ X.K T Q) I q0) fun us s1 ⟨vs1, H1, I1, r1, q1⟩ => ?_) hse hpl (by rfl) (by rfl)
  obtain ⟨v1, rfl, q1⟩ : ∃ v, vs1 = [v] ∧ tSortKQ X.K T Q [v] H1 := by
    match vs1, q1 with
    | [v], q1 => exact ⟨v, rfl, q1⟩
  obtain ⟨a, xs, rfl, hT, q1⟩ := q1
  show wpAny _ _ (evalAll [(do let v ← eval (.Lambda params (.Subscript (.Name y p1) (.Constant (.int 0) k0 p2) p3) scope lpos) X.env; standAt pos; pure v)]) _ _ s1
  refine wpAny_evalAll_cons (wpAny_bind (LamX.lam_make2 I1 TB hcode hmT hu hT hdef hfree fun f c' pm ctv H2 s2 I2 eN T2 hf hfn hfr hco' => wpAny_bind (wpAny_standAt (wpAny_pure (wpAny_evalAll_nil ?_)))))
  obtain ⟨hs, hy, hq⟩ := q1 H2 eN T2
  obtain ⟨u, rfl, ru⟩ := vals1 r1
  cases ru
  show wpAny _ _ (call (.builtin "sorted") [.ref a] [(Str.ofString "key", .ref f)]) _ _ s2
  refine sorted_keyI I2 hs (hu64 hr) (fun v x rx hx' h tk kp => ?_) hq
  obtain ⟨t, rest, ex, ht⟩ := hy x hx'
  rw [ex] at rx
  cases rx
  obtain ⟨its, rv, pl, _⟩ := I2.tuple ht
  obtain ⟨z0, rest', rfl⟩ : ∃ z0 rest', its = z0 :: rest' := by
    cases its with
    | nil => cases rv
    | cons z0 rest' => exact ⟨z0, rest', rfl⟩
  have r0 : RelV (.str x.2) z0 := by
    cases rv with
    | cons r _ => exact r
  obtain ⟨tz, rfl⟩ := r0
  have pl' : IsTup h t (Value.str x.2 tz :: rest').toArray := by
    obtain ⟨o, eo, r⟩ := pl
    exact ⟨o, kp _ _ eo, r⟩
  obtain ⟨oc, vs0, t0, hc1, hc2, hc3⟩ := (show ∃ (oc : Obj) (vs : Array Value) (t : Tok), s2.heap.get? c' = some oc ∧ oc.data = .fields vs ∧ vs[1]? = some (.str (X.env.qual ++ "<lambda>") t) from (I2.hok _ _ hco').1)
  exact lam_first (s := { s2 with heap := h, toks := tk }) hr.in1.in1.depth (kp _ _ hf) ⟨c', oc, vs0, t0, rfl, kp _ _ hc1, hc2, hc3⟩ (((I2.ok.mod.nolimit).keeps I2.bk).keeps kp) pl' (fun v => hbd _ _ _ _ _ v) hk hco hgen hcell hx hdb
end
end Wd

set_option Elab.async false
set_option linter.all false
set_option maxRecDepth 100000
set_option maxHeartbeats 4000000
/-! What rises is told by its things alone. -/
namespace Wd
open PySem PySem.Spec PyProof.Rows L2 PySem.W
def leT (a b : Str) : Prop := a.cps.toList ≤ b.cps.toList
theorem leT_trans {a b c : Str} (h1 : leT a b) (h2 : leT b c) : leT a c := List.le_trans h1 h2
theorem leT_anti {a b : Str} (h1 : leT a b) (h2 : leT b a) : a = b := by
  have e : a.cps.toList = b.cps.toList := List.le_antisymm h1 h2
  cases a
  cases b
  simp only at e
  rw [Array.toList_inj.mp e]
theorem leT_total (a b : Str) : leT a b ∨ leT b a := List.le_total _ _
theorem ltCps_le {a b : Str} : ltCps b.cps.toList a.cps.toList = false ↔ leT a b := by
  rw [ltCps_eq, decide_eq_false_iff_not]
  exact Iff.rfl
theorem rising_pair : ∀ (p : Str) (l : List Str), risingS p l = true → (p :: l).Pairwise leT
  | p, [], _ => List.pairwise_singleton _ _
  | p, x :: r, h => by
    have h2 : (!ltCps x.cps.toList p.cps.toList && risingS x r) = true := h
    rw [Bool.and_eq_true, Bool.not_eq_true'] at h2
    have px : leT p x := ltCps_le.mp h2.1
    have ih := rising_pair x r h2.2
    refine List.pairwise_cons.mpr ⟨fun y hy => ?_, ih⟩
    rcases List.mem_cons.mp hy with rfl | hy
    · exact px
    · exact leT_trans px ((List.pairwise_cons.mp ih).1 y hy)
theorem sorted_pair {l : List Str} (h : sortedS l = true) : l.Pairwise leT := by
  cases l with
  | nil => exact .nil
  | cons p l => exact rising_pair p l h
theorem perm_uniq {α : Type} {le : α → α → Prop} : ∀ {l m : List α}, (∀ a ∈ l, ∀ b ∈ l, le a b → le b a → a = b) → l.Perm m → l.Pairwise le → m.Pairwise le → l = m
  | [], m, _, p, _, _ => (List.perm_nil.mp p.symm).symm
  | a :: l, m, an, p, h1, h2 => by
    cases m with
    | nil => exact absurd p.length_eq (by simp)
    | cons b m =>
      have e : a = b := by
        have hb : b ∈ a :: l := p.mem_iff.mpr List.mem_cons_self
        have ha : a ∈ b :: m := p.mem_iff.mp List.mem_cons_self
        rcases List.mem_cons.mp hb with e | hb'
        · exact e.symm
        · rcases List.mem_cons.mp ha with e | ha'
          · exact e
          · exact an a List.mem_cons_self b hb ((List.pairwise_cons.mp h1).1 b hb') ((List.pairwise_cons.mp h2).1 a ha')
      subst e
      have p' := (List.perm_cons a).mp p
      rw [perm_uniq (fun x hx y hy => an x (List.mem_cons_of_mem _ hx) y (List.mem_cons_of_mem _ hy)) p' (List.pairwise_cons.mp h1).2 (List.pairwise_cons.mp h2).2]
theorem strLe_iff {β : Type} {key : β → Str} {x y : β} : strLe key x y = true ↔ leT (key x) (key y) := by
  have e : strLe key x y = !(strKind.blt (key y).cps.toList (key x).cps.toList) := by
    show (!lexLt itemOrd (keyToks (.str (key y))) (keyToks (.str (key x)))) = _
    have a1 : keyToks (.str (key y)) = [Sum.inr (key y).cps.toList] := by rw [keyToks]
    have a2 : keyToks (.str (key x)) = [Sum.inr (key x).cps.toList] := by rw [keyToks]
    rw [a1, a2, lex_cons]
    show (!(strKind.blt _ _ || (_ && false))) = _
    rw [Bool.and_false, Bool.or_false]
  rw [e, Bool.not_eq_true']
  have b : strKind.blt (key y).cps.toList (key x).cps.toList = ltCps (key y).cps.toList (key x).cps.toList := by
    rw [ltCps_eq]
  rw [b]
  exact ltCps_le
/-- by unlike names: the one order -/
theorem merge_names {β : Type} {xs ys : List β} {key : β → Str} {ns : List Str} (hk : ys.map key = ns) (hs : sortedS ns = true) (hn : ns.Nodup) (hp : xs.Perm ys) : xs.mergeSort (strLe key) = ys := by
  have pw : (xs.mergeSort (strLe key)).Pairwise (fun a b => leT (key a) (key b)) := by
    have := List.pairwise_mergeSort (le := strLe key) (fun a b c h1 h2 => strLe_iff.mpr (leT_trans (strLe_iff.mp h1) (strLe_iff.mp h2))) (fun a b => by
      rcases leT_total (key a) (key b) with h | h
      · rw [strLe_iff.mpr h, Bool.true_or]
      · rw [strLe_iff.mpr h, Bool.or_true]) xs
    exact this.imp fun {a b} h => strLe_iff.mp h
  have pm : (xs.mergeSort (strLe key)).Perm ys := (List.mergeSort_perm xs _).trans hp
  have py : ys.Pairwise (fun a b => leT (key a) (key b)) := by
    have := sorted_pair hs
    rw [← hk, List.pairwise_map] at this
    exact this
  refine perm_uniq (fun a ha b hb h1 h2 => ?_) pm pw py
  have ea : key a = key b := leT_anti h1 h2
  have nd : (ys.map key).Nodup := by rw [hk]; exact hn
  have ma := pm.mem_iff.mp ha
  have mb := pm.mem_iff.mp hb
  obtain ⟨i, hi, rfl⟩ := List.getElem_of_mem ma
  obtain ⟨j, hj, rfl⟩ := List.getElem_of_mem mb
  have p2 := List.pairwise_iff_getElem.mp nd
  rcases Nat.lt_trichotomy i j with c | c | c
  · exact absurd (by rw [List.getElem_map, List.getElem_map]; exact ea) (p2 i j (by simpa using hi) (by simpa using hj) c)
  · subst c
    rfl
  · exact absurd (by rw [List.getElem_map, List.getElem_map]; exact ea.symm) (p2 j i (by simpa using hj) (by simpa using hi) c)
/-- texts -/
theorem sort_texts {xs ys : List Str} (h1 : sortedS xs = true) (h2 : sortedS ys = true) (p : xs.Perm ys) : xs = ys :=
  perm_uniq (fun _ _ _ _ => leT_anti) p (sorted_pair h1) (sorted_pair h2)
/-! ### sorted of a list or a tuple of texts -/
def rSortG (K : PySem.W.Frag) : List V → Hp → VK → Prop := fun vs H Q => ∃ (a : Addr) (xs : List Str), vs = [V.ref a] ∧ (SqL K H a (xs.map V.str) ∨ SqT K H a (xs.map V.str)) ∧ xs.length < 64 ∧
  ∀ (ys : List Str) (p : Addr), ys.Perm xs → sortedS ys = true → H p = none → Q (.ref p) (upd H p (.lst (ys.map V.str)))
theorem cr_sortG {X : Cx} {K : PySem.W.Frag} (hK : X.K = K := by rfl) : CallR X (.builtin "sorted") (rSortG K) := by
  subst hK
  intro pins s σ H vs us Q I r h
  obtain ⟨a, xs, rfl, hs, h64, q⟩ := h
  obtain ⟨T, o, its, n, hT, ho, hc, hd, rv, hz⟩ := seq_obj I hs
  rw [Vals.ref1 r]
  have hS := rv.strs
  have hl : its.length = xs.length := by
    have z := rv.length
    rw [List.length_map] at z
    exact z.symm
  refine sorted_seq hT ho hc hd (by rw [hl, sizeLine_eq]; omega) (args_sorted1 _) (fun _ => args_list_sort _) fun h1 E' k1 => ?_
  have I1 : Inv X pins σ H { s with heap := h1 } := I.kept (t' := s.toks) k1
  have hob : (h1.push (seqObj "list" its.toArray 0)).get? h1.objs.size = some (seqObj "list" its.toArray 0) := Heap.get?_push_size _ rfl
  refine list_sort_treeK strKind_oneLt (s := { s with heap := h1.push (seqObj "list" its.toArray 0) }) hob hS.keysOf (fun v₁ v₂ rest e => keyKind_strs (by rw [← e]; exact hS)) (by rw [hl]; exact h64) fun st' hp hs' => ⟨rfl, ?_⟩
  obtain ⟨ys, g1, g2, g3⟩ := sorted_out_str hS hp hs'
  obtain ⟨ep, he'⟩ := PyProof.Rows.sortedHeap_at (vs := its) (out := (arrOf st').map (·.2)) hob
  have hlen : (ys.map V.str).length ≤ sizeLine := by
    rw [List.length_map, g2.length_eq, sizeLine_eq]
    omega
  refine ⟨.ref h1.objs.size, upd H h1.objs.size (.lst (ys.map V.str)), I1.laid (t' := s.toks) (fun b u e => ?_) (Nat.le_refl _) (show ObjOk X.prog X.w _ _ _ (.lst (ys.map V.str)) from ⟨hlen, ((arrOf st').map (·.2)).toList, ep, vals_of_strs g1, by rw [Array.toArray_toList]; exact he'⟩), rfl, q ys _ g2 g3 (I1.hok.fresh (Nat.le_refl _))⟩
  have hb : b ≠ h1.objs.size := Nat.ne_of_lt (Heap.lt_size e)
  rw [PyProof.Rows.sortedHeap_old hb (by show b < (h1.push (seqObj "list" its.toArray 0)).objs.size; rw [size_push']; exact Nat.lt_succ_of_lt (Heap.lt_size e))]
  exact Heap.get?_push_of_some _ e
end Wd

set_option Elab.async false
set_option linter.all false
set_option maxRecDepth 100000
set_option maxHeartbeats 4000000
/-! What a hall is made of, in drawn orders. -/
namespace Wd
open PySem PySem.Spec PyProof.Rows L2
section
variable {N : Addr → Prop} {K : PySem.W.Frag} {H H' : Hp}
theorem doorsKv_keys : ∀ {ds : List DoorH} {kvs : List (Key × V)}, DqKv N K H kvs (doorsKv ds) → kvs.map (·.1) = ds.map fun d => Sum.inr d.name
  | [], kvs, h => by cases h; rfl
  | d :: ds, kvs, h => by
    have e : doorsKv (d :: ds) = (.str d.name, d.data) :: doorsKv ds := rfl
    rw [e] at h
    generalize hx : PyData.str d.name = x at h
    cases h with
    | @cons k v kvs' d' ds' h1 h2 =>
      rw [List.map_cons, List.map_cons, doorsKv_keys h2]
      cases k with
      | inl i => cases hx
      | inr z => cases hx; rfl
theorem doorsKv_at : ∀ {ds : List DoorH} {kvs : List (Key × V)} {d : DoorH}, DqKv N K H kvs (doorsKv ds) → (ds.map DoorH.name).Nodup → d ∈ ds → ∃ v, valV kvs (.inr d.name) = some v ∧ Dq N K H v d.data
  | [], _, _, _, _, m => absurd m (by simp)
  | d0 :: ds, kvs, d, h, nd, m => by
    have e : doorsKv (d0 :: ds) = (.str d0.name, d0.data) :: doorsKv ds := rfl
    rw [e] at h
    generalize hx : PyData.str d0.name = x at h
    generalize hy : d0.data = y at h
    cases h with
    | @cons k v kvs' d' ds' h1 h2 =>
      have ek : k = .inr d0.name := by
        cases k with
        | inl i => cases hx
        | inr z => cases hx; rfl
      have nd' : d0.name ∉ ds.map DoorH.name ∧ (ds.map DoorH.name).Nodup := by
        rw [List.map_cons] at nd
        exact List.nodup_cons.mp nd
      rcases List.mem_cons.mp m with rfl | m
      · exact ⟨v, valV_pos ek, by rw [hy]; exact h1⟩
      · obtain ⟨v', e1, e2⟩ := doorsKv_at h2 nd'.2 m
        refine ⟨v', ?_, e2⟩
        rw [valV_neg (fun q => ?_)]
        · exact e1
        · have q' : k = .inr d.name := q
          rw [ek] at q'
          exact nd'.1 (by rw [Sum.inr.inj q']; exact List.mem_map.mpr ⟨d, m, rfl⟩)
theorem door_inv {v : V} {d : DoorH} (h : Dq N K H v d.data) : ∃ (t tr : Addr) (rvs : List V), v = .ref t ∧ N t ∧ N tr ∧ SqT K H t [.str d.one, .str d.other, .str d.way, .ref tr] ∧ SqT K H tr rvs ∧ DqAll N K H rvs (d.rows.map RowH.data) := by
  cases h with
  | tup n e q =>
    cases q with
    | cons h1 q =>
      cases q with
      | cons h2 q =>
        cases q with
        | cons h3 q =>
          cases q with
          | cons h4 q =>
            cases q
            cases h1
            cases h2
            cases h3
            cases h4 with
            | tup n' e' q' => exact ⟨_, _, _, rfl, n, n', e, e', q'⟩
end
/-- no list -/
def NoLs (o : HO) : Prop := ∀ ys, o ≠ .lst ys
theorem rows_move {p : Addr} {K : PySem.W.Frag} {H H' : Hp} (s : ∀ a o, a ≠ p → NoLs o → H a = some o → H' a = some o) : ∀ {vs : List V} {rs : List RowH}, DqAll (· ≠ p) K H vs (rs.map RowH.data) → DqAll (· ≠ p) K H' vs (rs.map RowH.data)
  | [], [], _ => .nil
  | v :: vs, r :: rs, h => by
    cases h with
    | cons h1 h2 =>
      refine .cons ?_ (rows_move s h2)
      cases h1 with
      | @tup a0 xs0 ds0 n e q =>
        have e' : SqT K H' a0 xs0 := by
          rcases e with (e | ⟨u, e⟩) | e
          · exact .inl (.inl (s _ _ n (fun _ z => by cases z) e))
          · exact .inl (.inr ⟨u, s _ _ n (fun _ z => by cases z) e⟩)
          · exact .inr e
        refine .tup n e' ?_
        cases q with
        | cons q1 q =>
          cases q with
          | cons q2 q =>
            cases q with
            | cons q3 q =>
              cases q
              cases q1
              cases q2
              refine .cons (.str _) (.cons (.int _) (.cons ?_ .nil))
              cases em : r.most with
              | none =>
                rw [em] at q3
                cases q3
                exact .non
              | some m =>
                rw [em] at q3
                cases q3
                exact .int m
/-- a door as it is handed in: z.2 is the list of its rows, where it is a list -/
def PartD (p lf : Addr) (K : PySem.W.Frag) (H : Hp) (v : V) (z : DoorH × Option Addr) : Prop := ∃ (t tt : Addr) (one other : Str) (rows : List RowH) (rvs : List V), v = .ref t ∧ t ≠ p ∧ SqT K H t [.str z.1.name, .str one, .str other, .str z.1.way, .ref tt] ∧
  ((one = z.1.one ∧ other = z.1.other) ∨ (z.1.way = "both" ∧ one = z.1.other ∧ other = z.1.one)) ∧ rows.Perm z.1.rows ∧ DqAll (· ≠ p) K H rvs (rows.map RowH.data) ∧ ((z.2 = some tt ∧ H tt = some (.lst rvs) ∧ tt ≠ lf) ∨ (z.2 = none ∧ SqT K H tt rvs)) ∧ tt ≠ p
theorem PartD.move {p lf : Addr} {K : PySem.W.Frag} {H H' : Hp} {v : V} {z : DoorH × Option Addr} (s : ∀ a o, a ≠ p → (a ≠ lf ∨ NoLs o) → H a = some o → H' a = some o) (h : PartD p lf K H v z) : PartD p lf K H' v z := by
  obtain ⟨t, tt, one, other, rows, rvs, e, nt, sq, en, rp, dq, l, ntt⟩ := h
  have mt : ∀ {b : Addr} {xs : List V}, b ≠ p → SqT K H b xs → SqT K H' b xs := fun {b xs} nb h => by
    rcases h with (h | ⟨u, h⟩) | h
    · exact .inl (.inl (s _ _ nb (.inr fun _ z => by cases z) h))
    · exact .inl (.inr ⟨u, s _ _ nb (.inr fun _ z => by cases z) h⟩)
    · exact .inr h
  refine ⟨t, tt, one, other, rows, rvs, e, nt, mt nt sq, en, rp, rows_move (fun a o na no ea => s a o na (.inr no) ea) dq, ?_, ntt⟩
  rcases l with ⟨l1, l2, l3⟩ | ⟨l1, l2⟩
  · exact .inl ⟨l1, s _ _ ntt (.inl l3) l2, l3⟩
  · exact .inr ⟨l1, mt ntt l2⟩
theorem paired_mono {α β : Type} {F G : α → β → Prop} (m : ∀ a b, F a b → G a b) : ∀ {xs : List α} {ys : List β}, Paired F xs ys → Paired G xs ys
  | _, _, .nil => .nil
  | _, _, .cons h r => .cons (m _ _ h) (paired_mono m r)
theorem paired_snoc {α β : Type} {F : α → β → Prop} {a : α} {b : β} (h : F a b) : ∀ {xs : List α} {ys : List β}, Paired F xs ys → Paired F (xs ++ [a]) (ys ++ [b])
  | _, _, .nil => .cons h .nil
  | _, _, .cons g r => .cons g (paired_snoc h r)
theorem dqAll_perm {α : Type} {f : α → PyData} {N : Addr → Prop} {K : PySem.W.Frag} {H : Hp} {xs ys : List V} (p : ys.Perm xs) : ∀ {rs : List α}, DqAll N K H xs (rs.map f) → ∃ rs' : List α, rs'.Perm rs ∧ DqAll N K H ys (rs'.map f) := by
  induction p with
  | nil => exact fun {rs} h => ⟨rs, List.Perm.refl _, h⟩
  | cons x _ ih =>
    intro rs h
    cases rs with
    | nil => cases h
    | cons r rs =>
      cases h with
      | cons h1 h2 =>
        obtain ⟨rs', p', d'⟩ := ih h2
        exact ⟨r :: rs', p'.cons r, .cons h1 d'⟩
  | swap x y l =>
    intro rs h
    cases rs with
    | nil => cases h
    | cons r rs =>
      cases rs with
      | nil =>
        cases h with
        | cons _ h => cases h
      | cons r2 rs =>
        cases h with
        | cons h1 h2 =>
          cases h2 with
          | cons h2 h3 => exact ⟨r2 :: r :: rs, List.Perm.swap _ _ _, .cons h2 (.cons h1 h3)⟩
  | trans _ _ ih1 ih2 =>
    intro rs h
    obtain ⟨r1, p1, d1⟩ := ih2 h
    obtain ⟨r2, p2, d2⟩ := ih1 d1
    exact ⟨r2, p2.trans p1, d2⟩
theorem plain_rows {N : Addr → Prop} {K : PySem.W.Frag} {H : Hp} : ∀ {vs : List V} {rs : List RowH}, DqAll N K H vs (rs.map RowH.data) → (∀ r ∈ rs, PyData.strOk r.room = true) → ∀ y ∈ vs, ∃ d, Dq N K H y d ∧ Plain d
  | [], _, _, _, _, m => absurd m (by simp)
  | v :: vs, rs, h, ok, y, m => by
    cases rs with
    | nil => cases h
    | cons r rs =>
      cases h with
      | cons h1 h2 =>
        rcases List.mem_cons.mp m with rfl | m
        · exact ⟨_, h1, plain_row (ok r List.mem_cons_self)⟩
        · exact plain_rows h2 (fun z hz => ok z (List.mem_cons_of_mem _ hz)) y m
theorem perm_of_map {α β : Type} (f : α → β) {m : List β} {l : List α} (h : m.Perm (l.map f)) : ∃ l' : List α, l'.Perm l ∧ l'.map f = m := perm_lift f h l rfl
def stoneD (s : Str × Int) : PyData := .tuple [.str s.1, .int s.2]
theorem stones_dq {p : Addr} {K : PySem.W.Frag} {H : Hp} : ∀ {ts : List Addr} {ss : List (Str × Int)}, Paired (fun (t : Addr) (q : Key × V) => H t = some (.tup [kV q.1, q.2])) ts (stonesKv ss) → (∀ t ∈ ts, t ≠ p) → DqAll (· ≠ p) K H (ts.map V.ref) (ss.map stoneD)
  | [], [], _, _ => .nil
  | t :: ts, s :: ss, h, n => by
    have e : stonesKv (s :: ss) = (.inr s.1, .int s.2) :: stonesKv ss := rfl
    rw [e] at h
    cases h with
    | cons h1 h2 => exact .cons (.tup (n t List.mem_cons_self) (.inl (.inl h1)) (.cons (.str _) (.cons (.int _) .nil))) (stones_dq h2 fun z hz => n z (List.mem_cons_of_mem _ hz))
  | [], s :: ss, h, _ => by cases h
  | t :: ts, [], h, _ => by cases h
theorem plain_stones {N : Addr → Prop} {K : PySem.W.Frag} {H : Hp} : ∀ {vs : List V} {rs : List (Str × Int)}, DqAll N K H vs (rs.map stoneD) → (∀ r ∈ rs, PyData.strOk r.1 = true) → ∀ y ∈ vs, ∃ d, Dq N K H y d ∧ Plain d
  | [], _, _, _, _, m => absurd m (by simp)
  | v :: vs, rs, h, ok, y, m => by
    cases rs with
    | nil => cases h
    | cons r rs =>
      cases h with
      | cons h1 h2 =>
        rcases List.mem_cons.mp m with rfl | m
        · have := ok r List.mem_cons_self
          exact ⟨_, h1, by simp [stoneD, PyData.hasDict, PyData.hasDictAll], by simp [stoneD, PyData.canLay0, PyData.canLayAll0, this], by simp [stoneD, PyData.depth, PyData.depthAll]⟩
        · exact plain_stones h2 (fun z hz => ok z (List.mem_cons_of_mem _ hz)) y m
theorem fresh_of {p l : Addr} {H G : Hp} (up : ∀ z o, z ≠ p → H z = some o → G z = some o) (n : l ≠ p) (e : G l = none) : H l = none := by
  cases q : H l with
  | none => rfl
  | some u =>
    rw [up l u n q] at e
    cases e
theorem paired_snd {α β : Type} {F : α → β → Prop} : ∀ {xs : List α} {ys : List β}, Paired F xs ys → ∀ {y : β}, y ∈ ys → ∃ x, x ∈ xs ∧ F x y
  | _, _, .nil, _, h => absurd h (by simp)
  | _, _, .cons h r, y, m => by
    rcases List.mem_cons.mp m with rfl | m
    · exact ⟨_, List.mem_cons_self, h⟩
    · obtain ⟨x, hx, q⟩ := paired_snd r m
      exact ⟨x, List.mem_cons_of_mem _ hx, q⟩
end Wd

set_option Elab.async false
set_option linter.all false
set_option maxRecDepth 100000
set_option maxHeartbeats 4000000
/-! Defs that make a lambda: their own code object is known. -/
namespace Wd
open PySem PySem.Spec PyProof.Rows L2
section
variable {P : Program} {w : World} {K : PySem.W.Frag} {mg : Str → Option Value} {base : Heap}
theorem fnT {x qual : Str} {st : Stmt} {f c : Addr} {fd : FuncData} {N ps : List Str} {k : Nat} {sp : Sp} (F : C8.Fun K x qual st f fd) (hcode : fd.code = .ref c) (S : FnScope N ps (C8.fnScope st)) (len : ∀ xs G R E, sp xs G R E → xs.length = ps.length)
    (hb : ∀ (A : Around) (out : List Env) (z : Shared) (G : Hp) (xs : List V) (R : VK) (E : XK), Room k (A.deeper (envOfC qual (C8.fnScope st) z.heap.objs.size f (.ref c))) → sp xs G R E →
      ∃ t, PSs (cxOf CX0 P w K mg base N qual (C8.fnScope st) f (.ref c) A out z G E).nox (C8.fnBody st) t ∧ t { nx := fun _ G' => R .non G', rt := R } (start N xs) G) : FnOk P w K mg base CX0 (k + 1) f fd ps sp := by
  obtain ⟨oc, od, dV, kV, doc, pm, an, cv, ct, sl, rfl, lk, hc⟩ := F.ex
  have e : cv = .ref c := hcode
  subst e
  refine fn_of lk hc S len fun A out z G xs R E hr hsp => ?_
  obtain ⟨t, h, q⟩ := hb A out z G xs R E hr hsp
  exact ⟨t, h.nox, q⟩
theorem calT {x : Str} {st : Stmt} {f c : Addr} {fd : FuncData} {N ps : List Str} {ds : List Value} {dvs : List V} {k : Nat} {sp : Sp} (F : C8.Def K mg x st f fd) (hcode : fd.code = .ref c) (b : Binds K fd ps ds) (d : Vals dvs ds) (S : FnScope N ps (C8.fnScope st)) (len : ∀ xs G R E, sp xs G R E → xs.length = ps.length)
    (hb : ∀ (A : Around) (out : List Env) (z : Shared) (G : Hp) (xs : List V) (R : VK) (E : XK), Room k (A.deeper (envOfC x (C8.fnScope st) z.heap.objs.size f (.ref c))) → sp xs G R E →
      ∃ t, PSs (cxOf CX0 P w K mg base N x (C8.fnScope st) f (.ref c) A out z G E).nox (C8.fnBody st) t ∧ t { nx := fun _ G' => R .non G', rt := R } (start N xs) G) : C8.Cal P w K mg base (k + 1) x sp dvs :=
  ⟨f, fd, ps, ds, fnT F.fn hcode S len hb, F.mgf, F.kp, b, d⟩
end
theorem pg_lstK {X : Cx} {K : PySem.W.Frag} {es : List Expr} {k : _} {pos : Pos} {t : TGs} {n : Nat} (hc : X.calm = true) (h : PGs X es t) (hK : X.K = K := by rfl) (hn : (assignEach es X.env).length = n := by rfl) (hst : (assignEach es X.env).findIdx? (·.1) = none := by rfl) : PG X (.Tuple es k pos) (gLst K n t) := by
  subst hK
  exact pg_lst hc h hn hst
theorem nofree_by {ns : List (Str × NameKind)} {Q : Str × NameKind → Prop} (h : ns.all (fun y => !decide (y.2 = .free)) = true) : ∀ z ∈ ns, z.2 = .free → Q z := fun z hz e => by
  have := List.all_eq_true.mp h z hz
  rw [Bool.not_eq_true', decide_eq_false_iff_not] at this
  exact absurd e this
theorem nocell_by {ns : List (Str × NameKind)} (h : ns.all (fun y => !decide (y.2 = .cell)) = true) : ∀ z ∈ ns, z.2 ≠ .cell := fun z hz e => by
  have := List.all_eq_true.mp h z hz
  rw [Bool.not_eq_true', decide_eq_false_iff_not] at this
  exact absurd e this
theorem pe_tupleK {X : Cx} {K : PySem.W.Frag} {a : Expr} {ta : TE} {p pos : Pos} (hg : Gl X "tuple") (hm : X.mg "tuple" = none) (ha : PE X a ta) (hK : X.K = K := by rfl) (na : starEach [a] X.env = (false, eval a X.env) :: starEach [] X.env := by rfl) :
    PE X (.Call (.Name "tuple" p) [a] [] pos) (tThen ta (kTup K)) := by
  subst hK
  exact pe_tupleOf hg hm ha na
/-! ### a walk over a list or a tuple -/
def iSeq (K : PySem.W.Frag) (te : TE) : TI := fun σ H R => te σ H fun x H1 => ∃ a, x = .ref a ∧ (((∃ xs, SqL K H1 a xs) ∧ R (Itl K a) H1) ∨ ((∃ xs, SqT K H1 a xs) ∧ R (Itt K a) H1))
section
variable {X : Cx} {tg : Expr} {pins : List (Addr × Obj)} {σ : L2.St} {H : Hp} {s : Shared} {R : It → Hp → Prop} {a : Addr} {xs : List V}
theorem it_list (I : Inv X pins σ H s) (h : SqL X.K H a xs) (r : R (Itl X.K a) H) : wpAny (model X.prog X.w) X.A (pyIter (.ref a)) (PIE X pins σ tg R) X.xe s := by
  obtain ⟨its, _, pl, _⟩ := I.list h
  refine wpAny_pyIter_list pl.isList ⟨_, [s.heap.objs.size], _, _, H, rfl, I.kept (t' := s.toks) fun z u ez => Heap.get?_push_of_some _ ez, turn_list a _, ⟨_, Heap.get?_push_size _ rfl, rfl, rfl⟩, fun z hz => ?_, r⟩
  rw [List.mem_singleton.mp hz]
  exact I.fpOk (Nat.le_refl _) (I.hok.fresh (Nat.le_refl _))
theorem it_tup (I : Inv X pins σ H s) (h : SqT X.K H a xs) (r : R (Itt X.K a) H) : wpAny (model X.prog X.w) X.A (pyIter (.ref a)) (PIE X pins σ tg R) X.xe s := by
  obtain ⟨its, _, pl, _⟩ := I.tuple h
  refine wpAny_pyIter_tuple (show s.heap.IsTuple a its.toArray from pl) ⟨_, [s.heap.objs.size], _, _, H, rfl, I.kept (t' := s.toks) fun z u ez => Heap.get?_push_of_some _ ez, turn_tuple a _, ⟨_, Heap.get?_push_size _ rfl, rfl, rfl⟩, fun z hz => ?_, r⟩
  rw [List.mem_singleton.mp hz]
  exact I.fpOk (Nat.le_refl _) (I.hok.fresh (Nat.le_refl _))
theorem pi_seqK {K : PySem.W.Frag} {e : Expr} {te : TE} (he : PE X e te) (hK : X.K = K := by rfl) : PI X tg e (iSeq K te) := by
  subst hK
  refine ⟨fun pins s σ H R I q => thn (he.run pins s σ H _ I q) fun v s1 ⟨x, H1, I1, r1, q1⟩ => ?_⟩
  obtain ⟨b, eb, q1⟩ := q1
  subst eb
  cases r1
  rcases q1 with ⟨⟨ys, h⟩, r⟩ | ⟨⟨ys, h⟩, r⟩
  · exact it_list I1 h r
  · exact it_tup I1 h r
end
/-! ### what stays where a lambda is made: all but the tables -/
theorem rowsT {N : Addr → Prop} {K : PySem.W.Frag} {H H' : Hp} (s : ∀ a xs, N a → SqT K H a xs → SqT K H' a xs) : ∀ {vs : List V} {rs : List RowH}, DqAll N K H vs (rs.map RowH.data) → DqAll N K H' vs (rs.map RowH.data)
  | [], [], _ => .nil
  | v :: vs, r :: rs, h => by
    cases h with
    | cons h1 h2 =>
      refine .cons ?_ (rowsT s h2)
      cases h1 with
      | tup n e q =>
        refine .tup n (s _ _ n e) ?_
        cases q with
        | cons q1 q =>
          cases q with
          | cons q2 q =>
            cases q with
            | cons q3 q =>
              cases q
              cases q1
              cases q2
              refine .cons (.str _) (.cons (.int _) (.cons ?_ .nil))
              cases em : r.most with
              | none =>
                rw [em] at q3
                cases q3
                exact .non
              | some m =>
                rw [em] at q3
                cases q3
                exact .int m
theorem ext_sqT {K : PySem.W.Frag} {H H' : Hp} {a : Addr} {xs : List V} (e : LamX.ExtN H H') (h : SqT K H a xs) : SqT K H' a xs := by
  rcases h with (h | ⟨u, h⟩) | h
  · exact .inl (.inl (e _ _ h fun _ z => by cases z))
  · exact .inl (.inr ⟨u, e _ _ h fun _ z => by cases z⟩)
  · exact .inr h
theorem ext_sqL {K : PySem.W.Frag} {H H' : Hp} {a : Addr} {xs : List V} (e : LamX.ExtN H H') (h : SqL K H a xs) : SqL K H' a xs := by
  rcases h with (h | ⟨u, h⟩) | h
  · exact .inl (.inl (e _ _ h fun _ z => by cases z))
  · exact .inl (.inr ⟨u, e _ _ h fun _ z => by cases z⟩)
  · exact .inr h
/-- may be new, though tables grow -/
def NewT (H : Hp) (a : Addr) : Prop := H a = none ∨ ∃ ps, H a = some (.tbl ps)
theorem ext_new {H H' : Hp} {a : Addr} (e : LamX.ExtN H H') (n : H' a = none) : NewT H a := by
  cases q : H a with
  | none => exact .inl q
  | some o =>
    by_cases c : ∃ ps, o = .tbl ps
    · obtain ⟨ps, rfl⟩ := c
      exact .inr ⟨ps, q⟩
    · rw [e _ _ q fun ps z => c ⟨ps, z⟩] at n
      cases n
theorem row_inv {N : Addr → Prop} {K : PySem.W.Frag} {H : Hp} {v : V} {r : RowH} (h : Dq N K H v r.data) : ∃ (t : Addr) (rest : List V), v = .ref t ∧ N t ∧ SqT K H t (.str r.room :: rest) := by
  cases h with
  | tup n e q =>
    cases q with
    | cons q1 q =>
      cases q1
      exact ⟨_, _, rfl, n, e⟩
theorem zip_dq {N : Addr → Prop} {K : PySem.W.Frag} {H : Hp} : ∀ {vs : List V} {rs : List RowH}, DqAll N K H vs (rs.map RowH.data) → ∀ z ∈ vs.zip rs, Dq N K H z.1 z.2.data
  | [], _, _, _, m => absurd m (by simp)
  | v :: vs, [], h, _, m => absurd m (by simp)
  | v :: vs, r :: rs, h, z, m => by
    cases h with
    | cons h1 h2 =>
      rw [List.zip_cons_cons] at m
      rcases List.mem_cons.mp m with rfl | m
      · exact h1
      · exact zip_dq h2 z m
theorem dq_zip {N : Addr → Prop} {K : PySem.W.Frag} {H : Hp} : ∀ {L : List (V × RowH)}, (∀ z ∈ L, Dq N K H z.1 z.2.data) → DqAll N K H (L.map Prod.fst) ((L.map Prod.snd).map RowH.data)
  | [], _ => .nil
  | z :: L, h => .cons (h z List.mem_cons_self) (dq_zip fun y m => h y (List.mem_cons_of_mem _ m))
/-- rows in the order of their rooms -/
theorem rows_sorted {N : Addr → Prop} {K : PySem.W.Frag} {H : Hp} {vs : List V} {rs rs0 : List RowH} (h : DqAll N K H vs (rs.map RowH.data)) (p : rs.Perm rs0) (hs : sortedS (rs0.map RowH.room) = true) (hn : (rs0.map RowH.room).Nodup) :
    ∃ vs0, (((vs.zip rs).map fun z : V × RowH => (z.1, z.2.room)).mergeSort (strLe Prod.snd)).map Prod.fst = vs0 ∧ DqAll N K H vs0 (rs0.map RowH.data) := by
  have hl : vs.length = rs.length := by rw [h.length, List.length_map]
  have e2 : (vs.zip rs).map Prod.snd = rs := List.map_snd_zip (by omega)
  obtain ⟨L, Lp, Ls⟩ := perm_lift Prod.snd p.symm (vs.zip rs) e2
  have m := merge_names (xs := (vs.zip rs).map fun z : V × RowH => (z.1, z.2.room)) (ys := L.map fun z : V × RowH => (z.1, z.2.room)) (key := Prod.snd) (ns := rs0.map RowH.room) (by
    rw [List.map_map, ← Ls, List.map_map]
    rfl) hs hn (Lp.symm.map _)
  refine ⟨L.map Prod.fst, ?_, ?_⟩
  · rw [m, List.map_map]
    rfl
  · have := dq_zip (L := L) fun z hz => zip_dq h z (Lp.subset hz)
    rw [Ls] at this
    exact this
/-- a dict made over a walk -/
theorem dc_walk {J : It} {n : Nat} {G : Hp → Prop} {Y : Nat → Hp → V → Hp → Prop} (wk : Walk J n G Y) {g : TG} {tt : TT} {tk tv : TE} {vs : List Nat} {σ : L2.St} {H1 : Hp} {D : Addr} {Qd : Hp → Prop} (Pv : Nat → Hp → Prop) (p0 : Pv 0 (upd H1 D (.dK []))) (pG : ∀ i Z, i ≤ n → Pv i Z → G Z)
    (ps : ∀ i x Z Z', i < n → Pv i Z → Y i Z x Z' → g x (wipe σ vs) Z' fun σ2 Z2 => wipe σ2 vs = wipe σ vs ∧ tt σ2 Z2 fun b Z3 =>
      if b = true then tk σ2 Z3 fun y Z4 => tv σ2 Z4 fun z Z5 => ∃ kvs k, y = kV k ∧ Z5 D = some (.dK kvs) ∧ kvs.length < sizeLine ∧ Pv (i + 1) (upd Z5 D (.dK (putK kvs k z))) else Pv (i + 1) Z3) (pd : ∀ Z, Pv n Z → Qd Z) :
    ∃ W : Nat → Nat → Hp → Prop, (∃ m, W 0 m (upd H1 D (.dK []))) ∧ ∀ i m Z, W i m Z →
      (J.stop i Z ∧ Qd Z) ∨ (J.go i Z ∧ ∃ Nx : Hp → Prop, (∀ Z', Nx Z' → ∃ m', m' < m ∧ W (i + 1) m' Z') ∧ ∀ x Z', J.yld i Z x Z' → g x (wipe σ vs) Z' fun σ2 Z2 => wipe σ2 vs = wipe σ vs ∧ tt σ2 Z2 fun b Z3 =>
        if b = true then tk σ2 Z3 fun y Z4 => tv σ2 Z4 fun z Z5 => ∃ kvs k, y = kV k ∧ Z5 D = some (.dK kvs) ∧ kvs.length < sizeLine ∧ Nx (upd Z5 D (.dK (putK kvs k z))) else Nx Z3) := by
  refine ⟨fun i m Z => m = n - i ∧ i ≤ n ∧ Pv i Z, ⟨n, by simp, Nat.zero_le _, p0⟩, ?_⟩
  rintro i m Z ⟨rfl, hi, p⟩
  have gg := pG i Z hi p
  rcases Nat.lt_or_ge i n with lt | ge
  · exact .inr ⟨wk.goes i Z lt gg, Pv (i + 1), fun Z' p' => ⟨n - (i + 1), by omega, rfl, lt, p'⟩, fun x Z' y => ps i x Z Z' lt p (wk.yields i Z x Z' lt gg y)⟩
  · have e : i = n := by omega
    subst e
    exact .inl ⟨wk.stops Z gg, pd Z p⟩
/-! ### data without dicts lives as long as its lists and tuples do -/
section
variable {N N' : Addr → Prop} {K : PySem.W.Frag} {H H' : Hp}
mutual
theorem Dq.sq (n : ∀ a, N a → N' a) (sL : ∀ a xs, SqL K H a xs → SqL K H' a xs) (sT : ∀ a xs, SqT K H a xs → SqT K H' a xs) : ∀ (d : PyData) (v : V), d.hasDict = false → Dq N K H v d → Dq N' K H' v d
  | .none, _, _, h => by cases h; exact .non
  | .bool b, _, _, h => by cases h; exact .bl b
  | .int i, _, _, h => by cases h; exact .int i
  | .str x, _, _, h => by cases h; exact .str x
  | .list ds, _, f, h => by
    cases h with
    | lst z hq ha => exact .lst (n _ z) (sL _ _ hq) (DqAll.sq n sL sT ds _ (by simpa [PyData.hasDict] using f) ha)
  | .tuple ds, _, f, h => by
    cases h with
    | tup z hq ha => exact .tup (n _ z) (sT _ _ hq) (DqAll.sq n sL sT ds _ (by simpa [PyData.hasDict] using f) ha)
  | .dict ds, _, f, _ => by simp [PyData.hasDict] at f
theorem DqAll.sq (n : ∀ a, N a → N' a) (sL : ∀ a xs, SqL K H a xs → SqL K H' a xs) (sT : ∀ a xs, SqT K H a xs → SqT K H' a xs) : ∀ (ds : List PyData) (vs : List V), PyData.hasDictAll ds = false → DqAll N K H vs ds → DqAll N' K H' vs ds
  | [], _, _, h => by cases h; exact .nil
  | d :: ds, _, f, h => by
    have f' : d.hasDict = false ∧ PyData.hasDictAll ds = false := by simpa [PyData.hasDictAll] using f
    cases h with
    | cons h1 h2 => exact .cons (Dq.sq n sL sT d _ f'.1 h1) (DqAll.sq n sL sT ds _ f'.2 h2)
end
theorem DqKv.sq (n : ∀ a, N a → N' a) (sL : ∀ a xs, SqL K H a xs → SqL K H' a xs) (sT : ∀ a xs, SqT K H a xs → SqT K H' a xs) : ∀ (ds : List DoorH) (kvs : List (Key × V)), DqKv N K H kvs (doorsKv ds) → DqKv N' K H' kvs (doorsKv ds)
  | [], _, h => by cases h; exact .nil
  | d :: ds, kvs, h => by
    have e : doorsKv (d :: ds) = (.str d.name, d.data) :: doorsKv ds := rfl
    rw [e] at h ⊢
    generalize hx : PyData.str d.name = x at h ⊢
    cases h with
    | cons h1 h2 => exact .cons (Dq.sq n sL sT _ _ (door_noDict d) h1) (DqKv.sq n sL sT ds _ h2)
theorem stones_noDict : ∀ ss : List (Str × Int), PyData.hasDictAll (ss.map stoneD) = false
  | [] => rfl
  | x :: r => by
    rw [List.map_cons]
    simp only [PyData.hasDictAll, stones_noDict r, Bool.or_false]
    rfl
end
/-- all but the tables and what stands at m -/
def ExtM (m : Addr) (H H' : Hp) : Prop := ∀ b o, b ≠ m → H b = some o → (∀ ps, o ≠ .tbl ps) → H' b = some o
theorem ExtM.sqT {m C dx : Addr} {fs : List (Str × V)} {K : PySem.W.Frag} {H H' : Hp} (hm : H m = some (.ins C dx fs)) (e : ExtM m H H') (a : Addr) (xs : List V) (h : SqT K H a xs) : SqT K H' a xs := by
  rcases h with (h | ⟨u, h⟩) | h
  · exact .inl (.inl (e _ _ (fun z => by rw [z, hm] at h; cases h) h fun _ z => by cases z))
  · exact .inl (.inr ⟨u, e _ _ (fun z => by rw [z, hm] at h; cases h) h fun _ z => by cases z⟩)
  · exact .inr h
theorem ExtM.sqL {m C dx : Addr} {fs : List (Str × V)} {K : PySem.W.Frag} {H H' : Hp} (hm : H m = some (.ins C dx fs)) (e : ExtM m H H') (a : Addr) (xs : List V) (h : SqL K H a xs) : SqL K H' a xs := by
  rcases h with (h | ⟨u, h⟩) | h
  · exact .inl (.inl (e _ _ (fun z => by rw [z, hm] at h; cases h) h fun _ z => by cases z))
  · exact .inl (.inr ⟨u, e _ _ (fun z => by rw [z, hm] at h; cases h) h fun _ z => by cases z⟩)
  · exact .inr h
theorem ExtM.trans {m : Addr} {H H1 H2 : Hp} (a : ExtM m H H1) (b : ExtM m H1 H2) : ExtM m H H2 := fun z o nz e t => b z o nz (a z o nz e t) t
theorem ExtM.ext {m : Addr} {H H1 : Hp} (a : LamX.ExtN H H1) : ExtM m H H1 := fun z o _ e t => a z o e t
theorem ExtM.at {m : Addr} {H H1 : Hp} {o : HO} (a : ExtM m H H1) : ExtM m H (upd H1 m o) := fun z u nz e t => by
  rw [upd_ne nz]
  exact a z u nz e t
/-- doors with their names, sorted -/
theorem pairs_sorted {F : V → DoorH → Prop} {vs : List V} {ds ds0 : List DoorH} (h : Paired F vs ds) (p : ds.Perm ds0) (hs : sortedS (ds0.map DoorH.name) = true) (hn : (ds0.map DoorH.name).Nodup) :
    ∃ vs0, (((vs.zip ds).map fun z : V × DoorH => (z.1, z.2.name)).mergeSort (strLe Prod.snd)).map Prod.fst = vs0 ∧ Paired F vs0 ds0 := by
  have hl : vs.length = ds.length := Paired.length h
  have zp : ∀ {vs : List V} {ds : List DoorH}, Paired F vs ds → ∀ z ∈ vs.zip ds, F z.1 z.2 := fun {vs ds} h => by
    induction h with
    | nil => exact fun z m => absurd m (by simp)
    | cons a _ ih =>
      intro z m
      rw [List.zip_cons_cons] at m
      rcases List.mem_cons.mp m with rfl | m
      · exact a
      · exact ih z m
  have e2 : (vs.zip ds).map Prod.snd = ds := List.map_snd_zip (by omega)
  obtain ⟨L, Lp, Ls⟩ := perm_lift Prod.snd p.symm (vs.zip ds) e2
  have m := merge_names (xs := (vs.zip ds).map fun z : V × DoorH => (z.1, z.2.name)) (ys := L.map fun z : V × DoorH => (z.1, z.2.name)) (key := Prod.snd) (ns := ds0.map DoorH.name) (by
    rw [List.map_map, ← Ls, List.map_map]
    rfl) hs hn (Lp.symm.map _)
  refine ⟨L.map Prod.fst, by rw [m, List.map_map]; rfl, ?_⟩
  have zq : ∀ {L : List (V × DoorH)}, (∀ z ∈ L, F z.1 z.2) → Paired F (L.map Prod.fst) (L.map Prod.snd) := fun {L} => by
    induction L with
    | nil => exact fun _ => .nil
    | cons z L ih => exact fun g => .cons (g z List.mem_cons_self) (ih fun y m => g y (List.mem_cons_of_mem _ m))
  have := zq (L := L) fun z hz => zp h z (Lp.subset hz)
  rw [Ls] at this
  exact this
theorem tabs_at {TT : List (Addr × Str)} {H : Hp} {m C dx : Addr} {fs : List (Str × V)} {o : HO} (t : LamX.Tabs TT H) (hm : H m = some (.ins C dx fs)) : LamX.Tabs TT (upd H m o) := fun p hp => by
  obtain ⟨ps, h1, h2, h3⟩ := t p hp
  refine ⟨ps, by rw [upd_ne (fun z => by rw [z, hm] at h1; cases h1)]; exact h1, h2, fun pos cv hc => ?_⟩
  obtain ⟨c, e1, e2⟩ := h3 pos cv hc
  refine ⟨c, e1, ?_⟩
  rw [upd_ne (fun z => by
    rw [z, hm] at e2
    unfold LamX.CodeO at e2
    cases e2)]
  exact e2
theorem tabs_dk {TT : List (Addr × Str)} {H : Hp} {m : Addr} {kvs : List (Key × V)} {o : HO} (t : LamX.Tabs TT H) (hm : H m = some (.dK kvs)) : LamX.Tabs TT (upd H m o) := fun p hp => by
  obtain ⟨ps, h1, h2, h3⟩ := t p hp
  refine ⟨ps, by rw [upd_ne (fun z => by rw [z, hm] at h1; cases h1)]; exact h1, h2, fun pos cv hc => ?_⟩
  obtain ⟨c, e1, e2⟩ := h3 pos cv hc
  refine ⟨c, e1, ?_⟩
  rw [upd_ne (fun z => by
    rw [z, hm] at e2
    unfold LamX.CodeO at e2
    cases e2)]
  exact e2
theorem extM_new {m C dx a : Addr} {fs : List (Str × V)} {H Z : Hp} (e : ExtM m H Z) (hz : Z m = some (.ins C dx fs)) (n : NewT Z a) : NewT H a := by
  cases q : H a with
  | none => exact .inl q
  | some o =>
    by_cases c : ∃ ps, o = .tbl ps
    · obtain ⟨ps, rfl⟩ := c
      exact .inr ⟨ps, q⟩
    · have na : a ≠ m := fun z => by
        rcases n with n | ⟨ps, n⟩
        · rw [z, hz] at n; cases n
        · rw [z, hz] at n; cases n
      have q2 := e _ _ na q fun ps z => c ⟨ps, z⟩
      rcases n with n | ⟨ps, n⟩
      · rw [q2] at n; cases n
      · rw [q2] at n; exact absurd ⟨ps, Option.some.inj n⟩ c
theorem sorted_sub {l k : List Str} (h : sortedS l = true) (s : k.Sublist l) : sortedS k = true :=
  sortedS_of_pairwise _ (((sorted_pair h).sublist s).imp fun {a b} x => ltCps_le.mpr x)
end Wd

set_option Elab.async false
set_option linter.all false
set_option maxRecDepth 100000
set_option maxHeartbeats 4000000
/-! The doors that lead from a room. -/
namespace Wd
open PySem PySem.Spec PyProof.Rows L2
def leadsOf1 (d : DoorH) (r : Str) : List (Str × Str) := (if r = d.one then [(d.name, d.other)] else []) ++ (if d.way = "both" ∧ r = d.other then [(d.name, d.one)] else [])
def leadsH (ds : List DoorH) (r : Str) : List (Str × Str) := ds.flatMap fun d => leadsOf1 d r
def leadD (z : Str × Str) : PyData := .tuple [.str z.1, .str z.2]
def leadsKv (rooms : List Str) (la : List Addr) : List (Key × V) := (rooms.zip la).map fun z => (.inr z.1, .ref z.2)
def LeadsAt (N : Addr → Prop) (K : PySem.W.Frag) (H : Hp) (l : Addr) (rooms : List Str) (ds : List DoorH) : Prop := ∃ la : List Addr, la.length = rooms.length ∧ H l = some (.dK (leadsKv rooms la)) ∧
  ∀ z ∈ rooms.zip la, ∃ vs, N z.2 ∧ H z.2 = some (.lst vs) ∧ DqAll anyA K H vs ((leadsH ds z.1).map leadD)
theorem leads_dq {N N' : Addr → Prop} {K : PySem.W.Frag} {H H' : Hp} (n : ∀ a, N a → N' a) (s : ∀ a xs, N a → SqT K H a xs → SqT K H' a xs) : ∀ {vs : List V} {rs : List (Str × Str)}, DqAll N K H vs (rs.map leadD) → DqAll N' K H' vs (rs.map leadD)
  | [], [], _ => .nil
  | v :: vs, r :: rs, h => by
    cases h with
    | cons h1 h2 =>
      refine .cons ?_ (leads_dq n s h2)
      cases h1 with
      | tup m e q =>
        refine .tup (n _ m) (s _ _ m e) ?_
        cases q with
        | cons q1 q =>
          cases q with
          | cons q2 q =>
            cases q
            cases q1
            cases q2
            exact .cons (.str _) (.cons (.str _) .nil)
theorem dqAll_snoc {N : Addr → Prop} {K : PySem.W.Frag} {H : Hp} {v : V} {d : PyData} (x : Dq N K H v d) : ∀ {vs : List V} {ds : List PyData}, DqAll N K H vs ds → DqAll N K H (vs ++ [v]) (ds ++ [d])
  | _, _, .nil => .cons x .nil
  | _, _, .cons a r => .cons a (dqAll_snoc x r)
/-- while they grow -/
structure RL (K : PySem.W.Frag) (H : Hp) (d l : Addr) (o : HO) (rooms : List Str) (la : List Addr) (f : Str → List (Str × Str)) (Z : Hp) : Prop where
  atL : Z l = some (.dK (leadsKv rooms la))
  atD : Z d = some o
  up : ∀ b u, b ≠ d → H b = some u → Z b = some u
  each : ∀ z ∈ rooms.zip la, ∃ vs, H z.2 = none ∧ Z z.2 = some (.lst vs) ∧ DqAll anyA K Z vs ((f z.1).map leadD)
theorem RL.new {K : PySem.W.Frag} {H Z : Hp} {d l a : Addr} {o : HO} {rooms : List Str} {la : List Addr} {f : Str → List (Str × Str)} (r : RL K H d l o rooms la f Z) (n : Z a = none) (u : HO) : RL K H d l o rooms la f (upd Z a u) := by
  have s := same_new n (o := u)
  refine ⟨s _ _ r.atL, s _ _ r.atD, fun b z nb e => s _ _ (r.up b z nb e), fun z hz => ?_⟩
  obtain ⟨vs, h0, h1, h2⟩ := r.each z hz
  exact ⟨vs, h0, s _ _ h1, leads_dq (fun _ z => z) (fun a xs _ h => sqT_at (fun o => s _ o) h) h2⟩
theorem zip_fst_inj {rooms : List Str} {la : List Addr} (hn : rooms.Nodup) {z y : Str × Addr} (hz : z ∈ rooms.zip la) (hy : y ∈ rooms.zip la) (e : z.1 = y.1) : z = y := by
  obtain ⟨i, hi, rfl⟩ := List.getElem_of_mem hz
  obtain ⟨j, hj, rfl⟩ := List.getElem_of_mem hy
  rw [List.length_zip] at hi hj
  rw [List.getElem_zip, List.getElem_zip] at e ⊢
  have e' : rooms[i]'(by omega) = rooms[j]'(by omega) := e
  have ij : i = j := (List.getElem_inj hn).mp e'
  subst ij
  rfl
theorem zip_snd_inj {rooms : List Str} {la : List Addr} (hn : la.Nodup) {z y : Str × Addr} (hz : z ∈ rooms.zip la) (hy : y ∈ rooms.zip la) (e : z.2 = y.2) : z = y := by
  obtain ⟨i, hi, rfl⟩ := List.getElem_of_mem hz
  obtain ⟨j, hj, rfl⟩ := List.getElem_of_mem hy
  rw [List.length_zip] at hi hj
  rw [List.getElem_zip, List.getElem_zip] at e ⊢
  have e' : la[i]'(by omega) = la[j]'(by omega) := e
  have ij : i = j := (List.getElem_inj hn).mp e'
  subst ij
  rfl
theorem zip_at {rooms : List Str} {la : List Addr} (hl : la.length = rooms.length) {r : Str} (h : r ∈ rooms) : ∃ a, (r, a) ∈ rooms.zip la := by
  obtain ⟨i, hi, rfl⟩ := List.getElem_of_mem h
  have hi2 : i < la.length := by omega
  refine ⟨la[i], ?_⟩
  have : (rooms.zip la)[i]'(by rw [List.length_zip]; omega) = (rooms[i], la[i]) := by rw [List.getElem_zip]
  rw [← this]
  exact List.getElem_mem _
theorem valV_mem {k : Key} {v : V} : ∀ {kvs : List (Key × V)}, (kvs.map (·.1)).Nodup → (k, v) ∈ kvs → valV kvs k = some v
  | [], _, h => absurd h (by simp)
  | x :: r, n, h => by
    have n' : x.1 ∉ r.map (·.1) ∧ (r.map (·.1)).Nodup := by
      rw [List.map_cons] at n
      exact List.nodup_cons.mp n
    rcases List.mem_cons.mp h with rfl | h
    · exact valV_pos rfl
    · rw [valV_neg (fun q => n'.1 (by rw [q]; exact List.mem_map.mpr ⟨_, h, rfl⟩))]
      exact valV_mem n'.2 h
theorem leadsKv_keys {rooms : List Str} {la : List Addr} (hl : la.length = rooms.length) : (leadsKv rooms la).map (·.1) = rooms.map Sum.inr := by
  unfold leadsKv
  rw [List.map_map, show ((fun x : Key × V => x.1) ∘ fun z : Str × Addr => ((Sum.inr z.1 : Key), V.ref z.2)) = (Sum.inr : Str → Key) ∘ (Prod.fst : Str × Addr → Str) from rfl, ← List.map_map, List.map_fst_zip (by omega)]
theorem inr_nodup {rooms : List Str} (h : rooms.Nodup) : (rooms.map (Sum.inr : Str → Key)).Nodup := by
  unfold List.Nodup
  rw [List.pairwise_map]
  exact List.Pairwise.imp (fun {a b} n e => n (Sum.inr.inj e)) h
theorem leadsKv_at {rooms : List Str} {la : List Addr} (hl : la.length = rooms.length) (hn : rooms.Nodup) {r : Str} {a : Addr} (h : (r, a) ∈ rooms.zip la) : valV (leadsKv rooms la) (.inr r) = some (.ref a) :=
  valV_mem (by rw [leadsKv_keys hl]; exact inr_nodup hn) (List.mem_map.mpr ⟨_, h, rfl⟩)
/-- one more -/
theorem RL.app {K : PySem.W.Frag} {H Z : Hp} {d l a t : Addr} {o : HO} {rooms : List Str} {la : List Addr} {f : Str → List (Str × Str)} {r0 nm bh : Str} {vs : List V} (r : RL K H d l o rooms la f Z) (hn : rooms.Nodup) (ln : la.Nodup) (ho : NoLs o) (hz : (r0, a) ∈ rooms.zip la) (hv : Z a = some (.lst vs))
    (hd : DqAll anyA K Z vs ((f r0).map leadD)) (ht : Z t = some (.tup [.str nm, .str bh])) : RL K H d l o rooms la (fun q => if q = r0 then f q ++ [(nm, bh)] else f q) (upd Z a (.lst (vs ++ [.ref t]))) := by
  have sq : ∀ b xs, anyA b → SqT K Z b xs → SqT K (upd Z a (.lst (vs ++ [.ref t]))) b xs := fun b xs _ h => by
    rcases h with (h | ⟨u, h⟩) | h
    · exact .inl (.inl (by rw [upd_ne (fun e => by rw [e, hv] at h; cases h)]; exact h))
    · exact .inl (.inr ⟨u, by rw [upd_ne (fun e => by rw [e, hv] at h; cases h)]; exact h⟩)
    · exact .inr h
  obtain ⟨_, ha0, _, _⟩ := r.each _ hz
  refine ⟨by rw [upd_ne (fun e => by have := r.atL; rw [e, hv] at this; cases this)]; exact r.atL, by rw [upd_ne (fun e => by have := r.atD; rw [e, hv] at this; exact ho _ (Option.some.inj this).symm)]; exact r.atD, fun b u nb e => ?_, fun z zm => ?_⟩
  · have : b ≠ a := fun q => by
      have ha0' : H a = none := ha0
      rw [q, ha0'] at e
      cases e
    rw [upd_ne this]
    exact r.up b u nb e
  · by_cases e : z.2 = a
    · have ez : z = (r0, a) := zip_snd_inj ln zm hz e
      subst ez
      refine ⟨vs ++ [.ref t], ha0, upd_same, ?_⟩
      rw [if_pos rfl, List.map_append]
      refine dqAll_snoc ?_ (leads_dq (fun _ z => z) sq hd)
      exact .tup trivial (sq _ _ trivial (.inl (.inl ht))) (.cons (.str _) (.cons (.str _) .nil))
    · have e1 : z.1 ≠ r0 := fun q => e (by rw [zip_fst_inj hn zm hz q])
      obtain ⟨ws, h0, h1, h2⟩ := r.each z zm
      refine ⟨ws, h0, by rw [upd_ne e]; exact h1, ?_⟩
      rw [if_neg e1]
      exact leads_dq (fun _ z => z) sq h2
theorem RL.ext {K : PySem.W.Frag} {H Z : Hp} {d l : Addr} {o : HO} {rooms : List Str} {la : List Addr} {f g : Str → List (Str × Str)} (r : RL K H d l o rooms la f Z) (e : ∀ q, f q = g q) : RL K H d l o rooms la g Z := by
  have : f = g := funext e
  subst this
  exact r
theorem leadsH_snoc (ds : List DoorH) (d : DoorH) (r : Str) : leadsH (ds ++ [d]) r = leadsH ds r ++ leadsOf1 d r := by
  unfold leadsH
  rw [List.flatMap_append, List.flatMap_singleton]
theorem leadsOf1_len (d : DoorH) (r : Str) : (leadsOf1 d r).length ≤ 2 := by
  unfold leadsOf1
  rw [List.length_append]
  split <;> split <;> simp
theorem leadsH_len (ds : List DoorH) (r : Str) : (leadsH ds r).length ≤ 2 * ds.length := by
  induction ds with
  | nil => exact Nat.le_refl _
  | cons d ds ih =>
    have : leadsH (d :: ds) r = leadsOf1 d r ++ leadsH ds r := by
      unfold leadsH
      rw [List.flatMap_cons]
    rw [this, List.length_append, List.length_cons]
    have := leadsOf1_len d r
    omega
end Wd
namespace Wd
open PySem PySem.Spec PyProof.Rows L2
theorem doorsKv_get {N : Addr → Prop} {K : PySem.W.Frag} {H : Hp} : ∀ {ds : List DoorH} {kvs : List (Key × V)}, DqKv N K H kvs (doorsKv ds) → ∀ {i : Nat} (hi : i < ds.length), ∃ v, kvs[i]? = some (.inr ds[i].name, v) ∧ Dq N K H v ds[i].data
  | [], _, _, i, hi => absurd hi (by simp)
  | d :: ds, kvs, h, i, hi => by
    have e : doorsKv (d :: ds) = (.str d.name, d.data) :: doorsKv ds := rfl
    rw [e] at h
    generalize hx : PyData.str d.name = x at h
    generalize hy : d.data = y at h
    cases h with
    | @cons k v kvs' d' ds' h1 h2 =>
      cases i with
      | zero =>
        have ek : k = .inr d.name := by
          cases k with
          | inl i => cases hx
          | inr z => cases hx; rfl
        subst ek
        exact ⟨v, rfl, by rw [List.getElem_cons_zero, hy]; exact h1⟩
      | succ i =>
        obtain ⟨v', g1, g2⟩ := doorsKv_get h2 (i := i) (by simpa using hi)
        exact ⟨v', g1, g2⟩
end Wd
namespace Wd
open PySem PySem.Spec PyProof.Rows L2
def Sq (K : PySem.W.Frag) (H : Hp) (a : Addr) (xs : List V) : Prop := SqL K H a xs ∨ SqT K H a xs
def heftL (x : HallH) : List (Str × Int) := x.stones ++ x.walkers.map fun z => (z.name, z.heft)
def handL (x : HallH) : List (Str × Int) := x.walkers.map fun z => (z.name, z.hands)
theorem ints_at {hl l : List (Str × Int)} {nm : Str} {i : Int} (p : hl.Perm l) (nd : (l.map Prod.fst).Nodup) (h : (nm, i) ∈ l) : valV (stonesKv hl) (.inr nm) = some (.int i) := by
  refine valV_mem ?_ (List.mem_map.mpr ⟨(nm, i), p.mem_iff.mpr h, rfl⟩)
  rw [stonesKv_keys]
  exact inr_nodup ((p.map Prod.fst).nodup_iff.mpr nd)
theorem heftL_nodup {x : HallH} (h : x.names.Nodup) : ((heftL x).map Prod.fst).Nodup := by
  unfold heftL
  rw [List.map_append, List.map_map]
  unfold HallH.names at h
  have h2 := (List.nodup_append.mp h).2.1
  obtain ⟨h3, h4, h5⟩ := List.nodup_append.mp h2
  obtain ⟨h6, _, _⟩ := List.nodup_append.mp h4
  refine List.nodup_append.mpr ⟨h6, h3, fun a ha b hb e => h5 b hb a (List.mem_append_left _ ha) e.symm⟩
theorem handL_nodup {x : HallH} (h : x.names.Nodup) : ((handL x).map Prod.fst).Nodup := by
  unfold handL
  rw [List.map_map]
  unfold HallH.names at h
  exact (List.nodup_append.mp (List.nodup_append.mp h).2.1).1
theorem stone_inv {N : Addr → Prop} {K : PySem.W.Frag} {H : Hp} {v : V} {x : Str × Int} (h : Dq N K H v (stoneD x)) : ∃ a, v = .ref a ∧ N a ∧ SqT K H a [.str x.1, .int x.2] := by
  cases h with
  | tup n e d =>
    cases d with
    | cons h1 d =>
      cases d with
      | cons h2 d =>
        cases d
        cases h1
        cases h2
        exact ⟨_, rfl, n, e⟩
/-- a walk over a list or a tuple, either way -/
theorem seq_it {K : PySem.W.Frag} {H : Hp} {a : Addr} {xs : List V} {R : It → Hp → Prop} (h : Sq K H a xs) (q : ∀ (J : It) (G : Hp → Prop), Walk J xs.length G (YAt xs) → (∀ Z, (∀ ys, SqL K H a ys → SqL K Z a ys) → (∀ ys, SqT K H a ys → SqT K Z a ys) → G Z) → R J H) :
    ((∃ xs, SqL K H a xs) ∧ R (Itl K a) H) ∨ ((∃ xs, SqT K H a xs) ∧ R (Itt K a) H) := by
  rcases h with h | h
  · exact .inl ⟨⟨_, h⟩, q _ _ walk_list fun Z s _ => s _ h⟩
  · exact .inr ⟨⟨_, h⟩, q _ _ walk_tup fun Z _ s => s _ h⟩
/-- rooms, doors, leads of a hall in the making -/
structure Core (N : Addr → Prop) (K : PySem.W.Frag) (x : HallH) (p1 DD ld : Addr) (Z : Hp) : Prop where
  r : Z p1 = some (.lst (x.rooms.map V.str))
  d : ∃ dkv, Z DD = some (.dK dkv) ∧ DqKv anyA K Z dkv (doorsKv x.doors)
  l : LeadsAt N K Z ld x.rooms x.doors
theorem Core.up {N : Addr → Prop} {K : PySem.W.Frag} {x : HallH} {p1 DD ld m C dx : Addr} {fs : List (Str × V)} {Z Z' : Hp} (c : Core N K x p1 DD ld Z) (hm : Z m = some (.ins C dx fs)) (e : ExtM m Z Z') : Core N K x p1 DD ld Z' := by
  obtain ⟨r, ⟨dkv, d1, d2⟩, la, l1, l2, l3⟩ := c
  refine ⟨e _ _ (fun z => by rw [z, hm] at r; cases r) r (fun _ z => by cases z), ⟨dkv, e _ _ (fun z => by rw [z, hm] at d1; cases d1) d1 (fun _ z => by cases z), DqKv.sq (fun _ z => z) (ExtM.sqL hm e) (ExtM.sqT hm e) _ _ d2⟩,
    la, l1, e _ _ (fun z => by rw [z, hm] at l2; cases l2) l2 (fun _ z => by cases z), fun z hz => ?_⟩
  obtain ⟨vs, g1, g2, g3⟩ := l3 z hz
  exact ⟨vs, g1, e _ _ (fun w => by rw [w, hm] at g2; cases g2) g2 (fun _ z => by cases z), leads_dq (fun _ z => z) (fun a xs _ h => ExtM.sqT hm e a xs h) g3⟩
theorem ExtM.refl {m : Addr} {H : Hp} : ExtM m H H := fun _ _ _ e _ => e
theorem ExtM.same {m : Addr} {H H1 : Hp} (a : Same H H1) : ExtM m H H1 := fun z o _ e _ => a z o e
end Wd
namespace Wd
open PySem PySem.Spec PyProof.Rows L2
def iSeqW (K : PySem.W.Frag) (te : TE) : TI := fun σ H R => te σ H fun x H1 => ∃ a xs, x = .ref a ∧ Sq K H1 a xs ∧ ∀ (J : It) (G : Hp → Prop), Walk J xs.length G (YAt xs) → (∀ Z, (∀ ys, SqL K H1 a ys → SqL K Z a ys) → (∀ ys, SqT K H1 a ys → SqT K Z a ys) → G Z) → R J H1
theorem pi_seqW {X : Cx} {tg : Expr} {K : PySem.W.Frag} {e : Expr} {te : TE} (he : PE X e te) (hK : X.K = K := by rfl) : PI X tg e (iSeqW K te) := by
  subst hK
  refine ⟨fun pins s σ H R I q => thn (he.run pins s σ H _ I q) fun v s1 ⟨x, H1, I1, r1, q1⟩ => ?_⟩
  obtain ⟨b, xs, eb, hs, q1⟩ := q1
  subst eb
  cases r1
  rcases hs with h | h
  · exact it_list I1 h (q1 _ _ walk_list fun Z s _ => s _ h)
  · exact it_tup I1 h (q1 _ _ walk_tup fun Z _ s => s _ h)
end Wd

set_option Elab.async false
set_option linter.all false
set_option maxRecDepth 100000
set_option maxHeartbeats 4000000
/-! Data that shows short, put together. -/
namespace Wd
open PySem PySem.Spec PyProof.Rows L2
structure Neat (w dp : Nat) (d : PyData) : Prop where
  short : d.leavesShort 13 = true
  show_ : d.showable = true
  wt : d.weight ≤ w
  dp : d.depth ≤ dp
theorem Neat.mono {w w' dp dp' : Nat} {d : PyData} (n : Neat w dp d) (h : w ≤ w') (h2 : dp ≤ dp') : Neat w' dp' d := ⟨n.short, n.show_, Nat.le_trans n.wt h, Nat.le_trans n.dp h2⟩
theorem Neat.repr {w dp : Nat} {d : PyData} (n : Neat w dp d) (hw : w ≤ 2 ^ 20) (hd : dp ≤ 60) : d.showable = true ∧ d.shown.length ≤ sizeLine ∧ d.depth ≤ 60 :=
  ⟨n.show_, PyData.shown_fits (B := 13) (by decide) (by decide) n.short (Nat.le_trans n.wt hw), Nat.le_trans n.dp hd⟩
theorem neat_all {w dp : Nat} : ∀ {ds : List PyData}, (∀ d ∈ ds, Neat w dp d) → PyData.leavesShortAll 13 ds = true ∧ PyData.showableAll ds = true ∧ PyData.weightAll ds ≤ (w + 1) * ds.length ∧ PyData.depthAll ds ≤ dp
  | [], _ => ⟨rfl, rfl, by simp [PyData.weightAll], by simp [PyData.depthAll]⟩
  | d :: ds, h => by
    have n := h d (List.mem_cons_self ..)
    obtain ⟨a, b, c, e⟩ := neat_all fun x hx => h x (List.mem_cons_of_mem _ hx)
    refine ⟨?_, ?_, ?_, ?_⟩
    · simp [PyData.leavesShortAll, n.short, a]
    · simp [PyData.showableAll, n.show_, b]
    · simp only [PyData.weightAll, List.length_cons]
      have := n.wt
      rw [Nat.mul_succ]
      omega
    · simp only [PyData.depthAll]
      have := n.dp
      omega
theorem neat_lst {w dp m : Nat} {ds : List PyData} (h : ∀ d ∈ ds, Neat w dp d) (hm : ds.length ≤ m) : Neat ((w + 1) * m) (dp + 1) (.list ds) := by
  obtain ⟨a, b, c, e⟩ := neat_all h
  refine ⟨by rw [PyData.leavesShort]; exact a, by rw [PyData.showable]; exact b, ?_, by rw [PyData.depth]; omega⟩
  rw [PyData.weight]
  exact Nat.le_trans c (Nat.mul_le_mul_left _ hm)
theorem neat_tup {w dp m : Nat} {ds : List PyData} (h : ∀ d ∈ ds, Neat w dp d) (hm : ds.length ≤ m) : Neat ((w + 1) * m) (dp + 1) (.tuple ds) := by
  obtain ⟨a, b, c, e⟩ := neat_all h
  refine ⟨by rw [PyData.leavesShort]; exact a, by rw [PyData.showable]; exact b, ?_, by rw [PyData.depth]; omega⟩
  rw [PyData.weight]
  exact Nat.le_trans c (Nat.mul_le_mul_left _ hm)
theorem neat_none : Neat 0 0 .none := ⟨rfl, rfl, Nat.le_refl _, Nat.le_refl _⟩
theorem neat_int {i : Int} (h : i.natAbs < 10 ^ 10) : Neat 51 0 (.int i) := by
  have l2 : i.natAbs.log2 ≤ 50 := by
    by_cases z : i.natAbs = 0
    · rw [z]; decide
    · exact Nat.le_of_lt ((Nat.log2_lt z).mpr (show i.natAbs < 2 ^ 50 by omega))
  refine ⟨?_, ?_, ?_, by simp [PyData.depth]⟩
  · show decide _ = true
    exact decide_eq_true (PyData.shown_int_le (by omega))
  · show decide _ = true
    exact decide_eq_true (by omega)
  · show (if i == 0 then 0 else i.natAbs.log2 + 1) ≤ 51
    split <;> omega
theorem neat_heft {i : Int} (h : 0 ≤ i) (h2 : i ≤ 9999999) : Neat 51 0 (.int i) := neat_int (by omega)
theorem neat_str {x : Str} {n : Nat} (h : ∀ c ∈ x.cps.toList, c < 16 ^ 8) (hl : x.length ≤ n) : Neat n 0 (.str x) := by
  refine ⟨?_, rfl, ?_, by simp [PyData.depth]⟩
  · rw [PyData.leavesShort, List.all_eq_true]
    exact fun c hc => decide_eq_true (h c hc)
  · rw [PyData.weight]
    exact hl
theorem neat_name {x : Str} (h : NameOk x) : Neat 8 0 (.str x) := neat_str (fun c hc => by have := (h.2.2 c hc).2; omega) (name_len h).2
theorem neat_row {r : RowH} (h : r.ok) (hn : NameOk r.room) : Neat 156 1 r.data := by
  obtain ⟨h1, h2, h3⟩ := h
  unfold RowH.data
  refine neat_tup (w := 51) (dp := 0) (m := 3) (fun d hd => ?_) (by simp)
  rcases List.mem_cons.mp hd with rfl | hd
  · exact (neat_name hn).mono (by decide) (Nat.le_refl _)
  rcases List.mem_cons.mp hd with rfl | hd
  · exact neat_heft h1 h2
  rw [List.mem_singleton.mp hd]
  cases e : r.most with
  | none => exact neat_none.mono (by decide) (Nat.le_refl _)
  | some m =>
    obtain ⟨a, b⟩ := h3 m e
    exact neat_heft (by omega) b
theorem neat_way {rooms : List Str} {d : DoorH} (h : DoorOk rooms d) : Neat 8 0 (.str d.way) := by
  rcases h.way with ⟨e, _⟩ | e
  · rw [e]; exact neat_name (by decide +kernel)
  · rw [e]; exact neat_name (by decide +kernel)
theorem neat_rows {rooms : List Str} {rs : List RowH} (h : RowsOk rooms rs) (hn : ∀ x ∈ rooms, NameOk x) : Neat 628 2 (rowsData rs) :=
  neat_tup (w := 156) (m := 4) (fun d hd => by
    obtain ⟨r, hr, rfl⟩ := List.mem_map.mp hd
    exact neat_row (h.each r hr) (hn _ (h.sub.subset (List.mem_map.mpr ⟨r, hr, rfl⟩)))) (by rw [List.length_map]; exact h.few)
theorem neat_door {rooms : List Str} {d : DoorH} (h : DoorOk rooms d) (hn : ∀ x ∈ rooms, NameOk x) : Neat 2516 3 d.data := by
  unfold DoorH.data
  refine neat_tup (w := 628) (dp := 2) (m := 4) (fun z hz => ?_) (by simp)
  rcases List.mem_cons.mp hz with rfl | hz
  · exact (neat_name (hn _ h.one)).mono (by decide) (by decide)
  rcases List.mem_cons.mp hz with rfl | hz
  · exact (neat_name (hn _ h.other)).mono (by decide) (by decide)
  rcases List.mem_cons.mp hz with rfl | hz
  · exact (neat_way h).mono (by decide) (by decide)
  rw [List.mem_singleton.mp hz]
  exact neat_rows h.rows hn
theorem neat_stone {s : Str × Int} (h : NameOk s.1) (h0 : 0 ≤ s.2) (h1 : s.2 ≤ 9999999) : Neat 104 1 (stoneD s) := by
  unfold stoneD
  refine neat_tup (w := 51) (dp := 0) (m := 2) (fun z hz => ?_) (by simp)
  rcases List.mem_cons.mp hz with rfl | hz
  · exact (neat_name h).mono (by decide) (by decide)
  rw [List.mem_singleton.mp hz]
  exact neat_heft h0 h1
theorem neat_walker {x : WalkH} (h : x.ok) (hn : NameOk x.name) : Neat 156 1 x.data := by
  obtain ⟨h1, h2, h3⟩ := h
  unfold WalkH.data
  refine neat_tup (w := 51) (dp := 0) (m := 3) (fun z hz => ?_) (by simp)
  rcases List.mem_cons.mp hz with rfl | hz
  · exact (neat_name hn).mono (by decide) (by decide)
  rcases List.mem_cons.mp hz with rfl | hz
  · exact neat_heft h1 h2
  rw [List.mem_singleton.mp hz]
  exact neat_heft (by rcases h3 with e | e | e | e | e <;> rw [e] <;> decide) (by rcases h3 with e | e | e | e | e <;> rw [e] <;> decide)
theorem neat_names {xs : List Str} {m : Nat} (h : ∀ x ∈ xs, NameOk x) (hm : xs.length ≤ m) : Neat (9 * m) 1 (.list (xs.map PyData.str)) :=
  neat_lst (w := 8) (fun d hd => by
    obtain ⟨x, hx, rfl⟩ := List.mem_map.mp hd
    exact neat_name (h x hx)) (by rw [List.length_map]; exact hm)
end Wd
namespace Wd
open PySem PySem.Spec PyProof.Rows L2
mutual
def tOnly : PyData → Bool
  | .none => true
  | .bool _ => true
  | .int _ => true
  | .str _ => true
  | .tuple ds => tOnlyAll ds
  | .list _ => false
  | .dict _ => false
def tOnlyAll : List PyData → Bool
  | [] => true
  | d :: ds => tOnly d && tOnlyAll ds
end
section
variable {N N' : Addr → Prop} {K : PySem.W.Frag} {H H' : Hp}
mutual
/-- data of tuples alone lives as long as its tuples do -/
theorem Dq.moveT (n : ∀ a, N a → N' a) (s : ∀ a xs, N a → SqT K H a xs → SqT K H' a xs) : ∀ (d : PyData) (v : V), tOnly d = true → Dq N K H v d → Dq N' K H' v d
  | .none, _, _, h => by cases h; exact .non
  | .bool b, _, _, h => by cases h; exact .bl b
  | .int i, _, _, h => by cases h; exact .int i
  | .str x, _, _, h => by cases h; exact .str x
  | .tuple ds, _, f, h => by
    cases h with
    | tup z hq ha => exact .tup (n _ z) (s _ _ z hq) (DqAll.moveT n s ds _ (by rw [tOnly] at f; exact f) ha)
  | .list ds, _, f, _ => by rw [tOnly] at f; cases f
  | .dict ds, _, f, _ => by rw [tOnly] at f; cases f
theorem DqAll.moveT (n : ∀ a, N a → N' a) (s : ∀ a xs, N a → SqT K H a xs → SqT K H' a xs) : ∀ (ds : List PyData) (vs : List V), tOnlyAll ds = true → DqAll N K H vs ds → DqAll N' K H' vs ds
  | [], _, _, h => by cases h; exact .nil
  | d :: ds, _, f, h => by
    rw [tOnlyAll, Bool.and_eq_true] at f
    cases h with
    | cons h1 h2 => exact .cons (Dq.moveT n s d _ f.1 h1) (DqAll.moveT n s ds _ f.2 h2)
end
end
theorem tOnly_map {α : Type} {f : α → PyData} (h : ∀ a, tOnly (f a) = true) : ∀ l : List α, tOnlyAll (l.map f) = true
  | [] => rfl
  | a :: l => by rw [List.map_cons, tOnlyAll, h a, tOnly_map h l]; rfl
theorem tOnly_row (r : RowH) : tOnly r.data = true := by
  unfold RowH.data
  cases r.most <;> rfl
theorem tOnly_door (d : DoorH) : tOnly d.data = true := by
  unfold DoorH.data rowsData
  simp only [tOnly, tOnlyAll, tOnly_map tOnly_row, Bool.and_self]
theorem tOnly_stone (d : Str × Int) : tOnly (stoneD d) = true := rfl
theorem tOnly_walk (d : WalkH) : tOnly d.data = true := rfl
theorem sqT_lst {K : PySem.W.Frag} {H : Hp} {l a : Addr} {ys xs : List V} {o : HO} (e : H l = some (.lst ys)) (h : SqT K H a xs) : SqT K (upd H l o) a xs := by
  rcases h with (h | ⟨u, h⟩) | h
  · exact .inl (.inl (by rw [upd_ne (fun z => by rw [z, e] at h; cases h)]; exact h))
  · exact .inl (.inr ⟨u, by rw [upd_ne (fun z => by rw [z, e] at h; cases h)]; exact h⟩)
  · exact .inr h
end Wd
namespace Wd
open PySem PySem.Spec PyProof.Rows L2
theorem DqKv.moveT {N N' : Addr → Prop} {K : PySem.W.Frag} {H H' : Hp} (n : ∀ a, N a → N' a) (s : ∀ a xs, N a → SqT K H a xs → SqT K H' a xs) : ∀ (ds : List DoorH) (kvs : List (Key × V)), DqKv N K H kvs (doorsKv ds) → DqKv N' K H' kvs (doorsKv ds)
  | [], _, h => by cases h; exact .nil
  | d :: ds, kvs, h => by
    have e : doorsKv (d :: ds) = (.str d.name, d.data) :: doorsKv ds := rfl
    rw [e] at h ⊢
    generalize hx : PyData.str d.name = x at h ⊢
    cases h with
    | cons h1 h2 => exact .cons (Dq.moveT n s _ _ (tOnly_door d) h1) (DqKv.moveT n s ds _ h2)
end Wd

set_option Elab.async false
set_option linter.all false
set_option maxRecDepth 100000
set_option maxHeartbeats 4000000
namespace Wd
open PySem PySem.Spec PyProof.Rows L2
/-- never run -/
theorem pss_dead {X : Cx} {b : List Stmt} : PSs X b (fun _ _ _ => False) := ⟨fun _ _ _ _ _ _ h => h.elim⟩
abbrev s_named : Stmt := topS 18
theorem sc_named : FnScope ["table", "name"] ["table", "name"] (C8.fnScope s_named) := ⟨rfl, rfl, rfl, by decide +kernel, rfl, by decide +kernel, by decide +kernel⟩
abbrev s_Hall_rooms : Stmt := inClass (topS 15) 3
theorem sc_Hall_rooms : FnScope ["self"] ["self"] (C8.fnScope s_Hall_rooms) := ⟨rfl, rfl, rfl, by decide +kernel, rfl, by decide +kernel, by decide +kernel⟩
abbrev s_Hall_doors : Stmt := inClass (topS 15) 4
theorem sc_Hall_doors : FnScope ["self"] ["self"] (C8.fnScope s_Hall_doors) := ⟨rfl, rfl, rfl, by decide +kernel, rfl, by decide +kernel, by decide +kernel⟩
abbrev s_Hall_stones : Stmt := inClass (topS 15) 5
theorem sc_Hall_stones : FnScope ["self"] ["self"] (C8.fnScope s_Hall_stones) := ⟨rfl, rfl, rfl, by decide +kernel, rfl, by decide +kernel, by decide +kernel⟩
abbrev s_Hall_walkers : Stmt := inClass (topS 15) 6
theorem sc_Hall_walkers : FnScope ["self"] ["self"] (C8.fnScope s_Hall_walkers) := ⟨rfl, rfl, rfl, by decide +kernel, rfl, by decide +kernel, by decide +kernel⟩
abbrev s_Hall___len__ : Stmt := inClass (topS 15) 2
theorem sc_Hall___len__ : FnScope ["self"] ["self"] (C8.fnScope s_Hall___len__) := ⟨rfl, rfl, rfl, by decide +kernel, rfl, by decide +kernel, by decide +kernel⟩
abbrev s_Hall_door : Stmt := inClass (topS 15) 7
theorem sc_Hall_door : FnScope ["self", "name"] ["self", "name"] (C8.fnScope s_Hall_door) := ⟨rfl, rfl, rfl, by decide +kernel, rfl, by decide +kernel, by decide +kernel⟩
abbrev s_Hall_heft : Stmt := inClass (topS 15) 9
theorem sc_Hall_heft : FnScope ["self", "name"] ["self", "name"] (C8.fnScope s_Hall_heft) := ⟨rfl, rfl, rfl, by decide +kernel, rfl, by decide +kernel, by decide +kernel⟩
abbrev s_Hall_hands : Stmt := inClass (topS 15) 10
theorem sc_Hall_hands : FnScope ["self", "walker"] ["self", "walker"] (C8.fnScope s_Hall_hands) := ⟨rfl, rfl, rfl, by decide +kernel, rfl, by decide +kernel, by decide +kernel⟩
section
variable {P : Program} {w : World} {K : PySem.W.Frag} {mg : Str → Option Value} {base : Heap}
def spNamed (K : PySem.W.Frag) : Sp := fun vs H Q _ => ∃ (d : Addr) (kvs : List (Key × V)) (nm : Str) (v : V), vs = [.ref d, .str nm] ∧ H d = some (.dK kvs) ∧ valV kvs (.inr nm) = some v ∧ Q v H
theorem c_named {c : CA} (T : Txt P w K mg base c) {f : Addr} {fd : FuncData} (F : C8.Def K mg "named" s_named f fd) (b : Binds K fd ["table", "name"] []) : C8.Cal P w K mg base 1 "named" (spNamed K) [] := by
  refine C8.cal0 F b .nil sc_named (fun vs H Q E h => ?_) (fun cdv A outer s H vs Q E hr h => ?_)
  · obtain ⟨d, kvs, nm, v, rfl, _⟩ := h
    rfl
  · obtain ⟨d, kvs, nm, v, rfl, hd, hv, q⟩ := h
    have hu := hu_of hr
    have hu6 := hu64 hr
    refine ⟨_, (pss_cons (ps_if (PW.pt (pw_or (pt_not (pt_truK (K := K) (pe_callB (call_isAny) (by rfl) T.b_isinstance bt_isinstance (pa_cons (pv 1) (pa_cons (pe_bltn (v := .ty "str") (by rfl) T.b_str (by decide +kernel) rfl) pa_nil))) (fun _ => rfl))) (pw_or1 (pt_cmp (pc_dnotin hu (pv 1) (pv 0)))))) pss_dead pss_nil)
  (pss_one (ps_ret (pe_dget hu (pv 0) (pv 1) (fun _ _ => rfl))))), ?_⟩
    refine ⟨.str nm, rfl, .inr (.inl ⟨.str nm, .ty "str", .type "str", .type "str", true, rfl, .ty _, .base (.str _), rfl, true, rfl, ?_⟩)⟩
    refine iteF ?_
    refine ⟨.str nm, rfl, .ref d, rfl, d, some v, rfl, .inl ⟨kvs, .inr nm, .inl hd, rfl, hv.symm⟩, false, rfl, iteF ?_⟩
    exact ⟨.ref d, rfl, .str nm, rfl, d, v, rfl, .inl ⟨kvs, .inr nm, .inl hd, rfl, hv.symm⟩, q⟩
/-- a made hall -/
def hallF (r d ld st wl fh hh : Addr) : List (Str × V) := [("_rooms", .ref r), ("_doors", .ref d), ("_leads", .ref ld), ("_stones", .ref st), ("_walkers", .ref wl), ("_hefts", .ref fh), ("_hands", .ref hh)]
def HObj (N : Addr → Prop) (K : PySem.W.Frag) (C : Addr) (H : Hp) (m : Addr) (x : HallH) : Prop := ∃ (dx r d ld st wl fh hh : Addr) (dkv : List (Key × V)) (hl : List (Str × Int)), H m = some (.ins C dx (hallF r d ld st wl fh hh)) ∧
  H r = some (.lst (x.rooms.map V.str)) ∧ H d = some (.dK dkv) ∧ DqKv anyA K H dkv (doorsKv x.doors) ∧ H st = some (.lst (x.stones.map fun z => V.str z.1)) ∧ H wl = some (.lst (x.walkers.map fun z => V.str z.name)) ∧ hl.Perm (heftL x) ∧ H fh = some (.dK (stonesKv hl)) ∧ H hh = some (.dK (stonesKv (handL x))) ∧ LeadsAt N K H ld x.rooms x.doors ∧ (N m ∧ N r ∧ N d ∧ N ld ∧ N st ∧ N wl ∧ N fh ∧ N hh)
theorem HObj.move {N N' : Addr → Prop} {K : PySem.W.Frag} {C m : Addr} {H H' : Hp} {x : HallH} (n : ∀ a, N a → N' a) (s : ∀ a o, N a → (∀ ps, o ≠ .tbl ps) → H a = some o → H' a = some o) (sT : ∀ a xs, SqT K H a xs → SqT K H' a xs) (h : HObj N K C H m x) : HObj N' K C H' m x := by
  obtain ⟨dx, r, d, ld, st, wl, fh, hh, dkv, hl, g0, g1, g2, g3, g4, g5, gp, g6, g7, g8, n0, n1, n2, n3, n4, n5, n6, n7⟩ := h
  have nt1 : ∀ {a b c}, ∀ ps, HO.ins a b c ≠ .tbl ps := fun _ z => by cases z
  have nt2 : ∀ {a}, ∀ ps, HO.lst a ≠ .tbl ps := fun _ z => by cases z
  have nt3 : ∀ {a}, ∀ ps, HO.dK a ≠ .tbl ps := fun _ z => by cases z
  refine ⟨dx, r, d, ld, st, wl, fh, hh, dkv, hl, s _ _ n0 nt1 g0, s _ _ n1 nt2 g1, s _ _ n2 nt3 g2, DqKv.moveT (fun _ z => z) (fun a xs _ h => sT a xs h) _ _ g3, s _ _ n4 nt2 g4, s _ _ n5 nt2 g5, gp, s _ _ n6 nt3 g6, s _ _ n7 nt3 g7, ?_, n _ n0, n _ n1, n _ n2, n _ n3, n _ n4, n _ n5, n _ n6, n _ n7⟩
  obtain ⟨la, l1, l2, l3⟩ := g8
  refine ⟨la, l1, s _ _ n3 nt3 l2, fun z hz => ?_⟩
  obtain ⟨vs, h1, h2, h3⟩ := l3 z hz
  exact ⟨vs, n _ h1, s _ _ h1 nt2 h2, leads_dq (fun _ z => z) (fun a xs _ h => sT a xs h) h3⟩
structure TxtH (K : PySem.W.Frag) (C : Addr) : Prop where
  cl : Cls K C
  n_rooms : NoAttr K C "_rooms"
  n_doors : NoAttr K C "_doors"
  n_leads : NoAttr K C "_leads"
  n_stones : NoAttr K C "_stones"
  n_walkers : NoAttr K C "_walkers"
  n_hefts : NoAttr K C "_hefts"
  n_hands : NoAttr K C "_hands"
theorem HObj.same {N : Addr → Prop} {K : PySem.W.Frag} {C m : Addr} {H H' : Hp} {x : HallH} (h : HObj N K C H m x) (s : Same H H') : HObj N K C H' m x := h.move (fun _ z => z) (fun a o _ _ e => s a o e) fun a xs h => sqT_at (fun o => s a o) h
theorem HObj.ins {N : Addr → Prop} {K : PySem.W.Frag} {C m : Addr} {H : Hp} {x : HallH} (h : HObj N K C H m x) : ∃ dx r d ld st wl fh hh, H m = some (.ins C dx (hallF r d ld st wl fh hh)) := by
  obtain ⟨dx, r, d, ld, st, wl, fh, hh, dkv, hl, g0, _⟩ := h
  exact ⟨dx, r, d, ld, st, wl, fh, hh, g0⟩
def spM_rooms (K : PySem.W.Frag) (C : Addr) : Sp := fun vs H Q _ => ∃ (N : Addr → Prop) (m : Addr) (x : HallH), vs = [.ref m] ∧ HObj N K C H m x ∧ ∀ l, H l = none → Q (.ref l) (upd H l (.lst (x.rooms.map V.str)))
theorem m_rooms {c : CA} {C : Addr} (T : Txt P w K mg base c) (TH : TxtH K C) {f : Addr} {fd : FuncData} (me : Meth K C "rooms" f) (F : C8.Fun K "rooms" "Hall.rooms" s_Hall_rooms f fd) (b : Binds K fd ["self"] []) : C8.Met P w K mg base 1 C "rooms" (spM_rooms K C) [] := by
  refine C8.met0 TH.cl me F b sc_Hall_rooms (fun vs H Q E h => ?_) (fun cdv A outer s H vs Q E hr h => ?_)
  · obtain ⟨N, m, x, rfl, _⟩ := h
    rfl
  · obtain ⟨N, m, x, rfl, ho, q⟩ := h
    refine ⟨_, (pss_one (ps_ret (pe_callTy (call_list_of) (by rfl) T.b_list bt_list (pa_cons (pe_fld (pv 0) rfl) pa_nil)))), ?_⟩
    obtain ⟨dx, r, d, ld, st, wl, fh, hh, dkv, hl, g0, g1, g2, g3, g4, g5, gp, g6, g7, g8, gn⟩ := ho
    exact ⟨.ref m, rfl, m, C, dx, _, .ref r, rfl, g0, TH.cl, TH.n_rooms, by rfl, r, _, rfl, .inl (.inl (.inl g1)), fun l nl => q l nl⟩
def spM_stones (K : PySem.W.Frag) (C : Addr) : Sp := fun vs H Q _ => ∃ (N : Addr → Prop) (m : Addr) (x : HallH), vs = [.ref m] ∧ HObj N K C H m x ∧ ∀ l, H l = none → Q (.ref l) (upd H l (.lst (x.stones.map fun z => V.str z.1)))
theorem m_stones {c : CA} {C : Addr} (T : Txt P w K mg base c) (TH : TxtH K C) {f : Addr} {fd : FuncData} (me : Meth K C "stones" f) (F : C8.Fun K "stones" "Hall.stones" s_Hall_stones f fd) (b : Binds K fd ["self"] []) : C8.Met P w K mg base 1 C "stones" (spM_stones K C) [] := by
  refine C8.met0 TH.cl me F b sc_Hall_stones (fun vs H Q E h => ?_) (fun cdv A outer s H vs Q E hr h => ?_)
  · obtain ⟨N, m, x, rfl, _⟩ := h
    rfl
  · obtain ⟨N, m, x, rfl, ho, q⟩ := h
    refine ⟨_, (pss_one (ps_ret (pe_callTy (call_list_of) (by rfl) T.b_list bt_list (pa_cons (pe_fld (pv 0) rfl) pa_nil)))), ?_⟩
    obtain ⟨dx, r, d, ld, st, wl, fh, hh, dkv, hl, g0, g1, g2, g3, g4, g5, gp, g6, g7, g8, gn⟩ := ho
    exact ⟨.ref m, rfl, m, C, dx, _, .ref st, rfl, g0, TH.cl, TH.n_stones, by rfl, st, _, rfl, .inl (.inl (.inl g4)), fun l nl => q l nl⟩
def spM_walkers (K : PySem.W.Frag) (C : Addr) : Sp := fun vs H Q _ => ∃ (N : Addr → Prop) (m : Addr) (x : HallH), vs = [.ref m] ∧ HObj N K C H m x ∧ ∀ l, H l = none → Q (.ref l) (upd H l (.lst (x.walkers.map fun z => V.str z.name)))
theorem m_walkers {c : CA} {C : Addr} (T : Txt P w K mg base c) (TH : TxtH K C) {f : Addr} {fd : FuncData} (me : Meth K C "walkers" f) (F : C8.Fun K "walkers" "Hall.walkers" s_Hall_walkers f fd) (b : Binds K fd ["self"] []) : C8.Met P w K mg base 1 C "walkers" (spM_walkers K C) [] := by
  refine C8.met0 TH.cl me F b sc_Hall_walkers (fun vs H Q E h => ?_) (fun cdv A outer s H vs Q E hr h => ?_)
  · obtain ⟨N, m, x, rfl, _⟩ := h
    rfl
  · obtain ⟨N, m, x, rfl, ho, q⟩ := h
    refine ⟨_, (pss_one (ps_ret (pe_callTy (call_list_of) (by rfl) T.b_list bt_list (pa_cons (pe_fld (pv 0) rfl) pa_nil)))), ?_⟩
    obtain ⟨dx, r, d, ld, st, wl, fh, hh, dkv, hl, g0, g1, g2, g3, g4, g5, gp, g6, g7, g8, gn⟩ := ho
    exact ⟨.ref m, rfl, m, C, dx, _, .ref wl, rfl, g0, TH.cl, TH.n_walkers, by rfl, wl, _, rfl, .inl (.inl (.inl g5)), fun l nl => q l nl⟩
def spM_doors (K : PySem.W.Frag) (C : Addr) : Sp := fun vs H Q _ => ∃ (N : Addr → Prop) (m : Addr) (x : HallH), vs = [.ref m] ∧ HObj N K C H m x ∧ ∀ l, H l = none → Q (.ref l) (upd H l (.lst (x.doors.map fun z => V.str z.name)))
theorem m_doors {c : CA} {C : Addr} (T : Txt P w K mg base c) (TH : TxtH K C) {f : Addr} {fd : FuncData} (me : Meth K C "doors" f) (F : C8.Fun K "doors" "Hall.doors" s_Hall_doors f fd) (b : Binds K fd ["self"] []) : C8.Met P w K mg base 1 C "doors" (spM_doors K C) [] := by
  refine C8.met0 TH.cl me F b sc_Hall_doors (fun vs H Q E h => ?_) (fun cdv A outer s H vs Q E hr h => ?_)
  · obtain ⟨N, m, x, rfl, _⟩ := h
    rfl
  · obtain ⟨N, m, x, rfl, ho, q⟩ := h
    refine ⟨_, (pss_one (ps_ret (pe_callTy (call_listG (K := K) rfl) (by rfl) T.b_list bt_list (pa_cons (pe_fld (pv 0) rfl) pa_nil)))), ?_⟩
    obtain ⟨dx, r, d, ld, st, wl, fh, hh, dkv, hl, g0, g1, g2, g3, g4, g5, gp, g6, g7, g8, gn⟩ := ho
    have dk : dkv.map (fun kv => kV kv.1) = x.doors.map fun z => V.str z.name := by
      have := congrArg (List.map kV) (doorsKv_keys g3)
      rw [List.map_map, List.map_map] at this
      exact this
    refine ⟨.ref m, rfl, m, C, dx, _, .ref d, rfl, g0, TH.cl, TH.n_doors, by rfl, d, rfl, .inr ⟨dkv, .inl g2, fun l nl => ?_⟩⟩
    rw [dk]
    exact q l nl
def spM_len (K : PySem.W.Frag) (C : Addr) : Sp := fun vs H Q _ => ∃ (N : Addr → Prop) (m : Addr) (x : HallH), vs = [.ref m] ∧ HObj N K C H m x ∧ Q (.int x.rooms.length) H
theorem f_len {c : CA} {C : Addr} (T : Txt P w K mg base c) (TH : TxtH K C) {f : Addr} {fd : FuncData} (F : C8.Fun K "__len__" "Hall.__len__" s_Hall___len__ f fd) : FnOk P w K mg base CX0 1 f fd ["self"] (spM_len K C) := by
  refine C8.fn0 F sc_Hall___len__ (fun vs H Q E h => ?_) (fun cdv A outer s H vs Q E hr h => ?_)
  · obtain ⟨N, m, x, rfl, _⟩ := h
    rfl
  · obtain ⟨N, m, x, rfl, ho, q⟩ := h
    refine ⟨_, (pss_one (ps_ret (pe_callB (call_lenG (K := K)) (by rfl) T.b_len bt_len (pa_cons (pe_fld (pv 0) rfl) pa_nil)))), ?_⟩
    obtain ⟨dx, r, d, ld, st, wl, fh, hh, dkv, hl, g0, g1, g2, g3, g4, g5, gp, g6, g7, g8, gn⟩ := ho
    refine ⟨.ref m, rfl, m, C, dx, _, .ref r, rfl, g0, TH.cl, TH.n_rooms, by rfl, .inl ⟨_, .inl (.inl (.inl g1)), ?_⟩⟩
    rw [List.length_map]
    exact q
def spM_door (K : PySem.W.Frag) (C : Addr) : Sp := fun vs H Q _ => ∃ (N : Addr → Prop) (m : Addr) (x : HallH) (dd : DoorH), vs = [.ref m, .str dd.name] ∧ HObj N K C H m x ∧ dd ∈ x.doors ∧ (x.doors.map DoorH.name).Nodup ∧ ∀ v, Dq anyA K H v dd.data → Q v H
theorem m_door {c : CA} {C : Addr} (T : Txt P w K mg base c) (TH : TxtH K C) (cnamed : C8.Cal P w K mg base 1 "named" (spNamed K) []) {f : Addr} {fd : FuncData} (me : Meth K C "door" f) (F : C8.Fun K "door" "Hall.door" s_Hall_door f fd) (b : Binds K fd ["self", "name"] []) : C8.Met P w K mg base 2 C "door" (spM_door K C) [] := by
  refine C8.met0 TH.cl me F b sc_Hall_door (fun vs H Q E h => ?_) (fun cdv A outer s H vs Q E hr h => ?_)
  · obtain ⟨N, m, x, dd, rfl, _⟩ := h
    rfl
  · obtain ⟨N, m, x, dd, rfl, ho, hd, hn, q⟩ := h
    refine ⟨_, (pss_one (ps_ret (C8.pe_c cnamed hr (by decide) (by rfl) (pa_cons (pe_fld (pv 0) rfl) (pa_cons (pv 1) pa_nil))))), ?_⟩
    obtain ⟨dx, r, d, ld, st, wl, fh, hh, dkv, hl, g0, g1, g2, g3, g4, g5, gp, g6, g7, g8, gn⟩ := ho
    obtain ⟨v, hv, dv⟩ := doorsKv_at g3 hn hd
    exact ⟨.ref m, rfl, m, C, dx, _, .ref d, rfl, g0, TH.cl, TH.n_doors, by rfl, .str dd.name, rfl, d, dkv, dd.name, v, rfl, g2, hv, q v dv⟩
def spM_heft (K : PySem.W.Frag) (C : Addr) : Sp := fun vs H Q _ => ∃ (N : Addr → Prop) (m : Addr) (x : HallH) (nm : Str) (i : Int), vs = [.ref m, .str nm] ∧ HObj N K C H m x ∧ (nm, i) ∈ heftL x ∧ ((heftL x).map Prod.fst).Nodup ∧ Q (.int i) H
theorem m_heft {c : CA} {C : Addr} (T : Txt P w K mg base c) (TH : TxtH K C) (cnamed : C8.Cal P w K mg base 1 "named" (spNamed K) []) {f : Addr} {fd : FuncData} (me : Meth K C "heft" f) (F : C8.Fun K "heft" "Hall.heft" s_Hall_heft f fd) (b : Binds K fd ["self", "name"] []) : C8.Met P w K mg base 2 C "heft" (spM_heft K C) [] := by
  refine C8.met0 TH.cl me F b sc_Hall_heft (fun vs H Q E h => ?_) (fun cdv A outer s H vs Q E hr h => ?_)
  · obtain ⟨N, m, x, nm, i, rfl, _⟩ := h
    rfl
  · obtain ⟨N, m, x, nm, i, rfl, ho, hv, hnd, q⟩ := h
    refine ⟨_, (pss_one (ps_ret (C8.pe_c cnamed hr (by decide) (by rfl) (pa_cons (pe_fld (pv 0) rfl) (pa_cons (pv 1) pa_nil))))), ?_⟩
    obtain ⟨dx, r, d, ld, st, wl, fh, hh, dkv, hl, g0, g1, g2, g3, g4, g5, gp, g6, g7, g8, gn⟩ := ho
    exact ⟨.ref m, rfl, m, C, dx, _, .ref fh, rfl, g0, TH.cl, TH.n_hefts, by rfl, .str nm, rfl, fh, _, nm, .int i, rfl, g6, ints_at gp hnd hv, q⟩
def spM_hands (K : PySem.W.Frag) (C : Addr) : Sp := fun vs H Q _ => ∃ (N : Addr → Prop) (m : Addr) (x : HallH) (nm : Str) (i : Int), vs = [.ref m, .str nm] ∧ HObj N K C H m x ∧ (nm, i) ∈ handL x ∧ ((handL x).map Prod.fst).Nodup ∧ Q (.int i) H
theorem m_hands {c : CA} {C : Addr} (T : Txt P w K mg base c) (TH : TxtH K C) (cnamed : C8.Cal P w K mg base 1 "named" (spNamed K) []) {f : Addr} {fd : FuncData} (me : Meth K C "hands" f) (F : C8.Fun K "hands" "Hall.hands" s_Hall_hands f fd) (b : Binds K fd ["self", "walker"] []) : C8.Met P w K mg base 2 C "hands" (spM_hands K C) [] := by
  refine C8.met0 TH.cl me F b sc_Hall_hands (fun vs H Q E h => ?_) (fun cdv A outer s H vs Q E hr h => ?_)
  · obtain ⟨N, m, x, nm, i, rfl, _⟩ := h
    rfl
  · obtain ⟨N, m, x, nm, i, rfl, ho, hv, hnd, q⟩ := h
    refine ⟨_, (pss_one (ps_ret (C8.pe_c cnamed hr (by decide) (by rfl) (pa_cons (pe_fld (pv 0) rfl) (pa_cons (pv 1) pa_nil))))), ?_⟩
    obtain ⟨dx, r, d, ld, st, wl, fh, hh, dkv, hl, g0, g1, g2, g3, g4, g5, gp, g6, g7, g8, gn⟩ := ho
    exact ⟨.ref m, rfl, m, C, dx, _, .ref hh, rfl, g0, TH.cl, TH.n_hands, by rfl, .str nm, rfl, hh, _, nm, .int i, rfl, g7, ints_at (List.Perm.refl _) hnd hv, q⟩
end
end Wd

set_option Elab.async false
set_option linter.all false
set_option maxRecDepth 100000
set_option maxHeartbeats 4000000
/-! What lives past a made hall. -/
namespace Wd
open PySem PySem.Spec PyProof.Rows L2
theorem tabs_move {TT : List (Addr × Str)} {H H' : Hp} (s : ∀ b o, (∀ l, o ≠ .lst l) → (∀ l, o ≠ .dK l) → H b = some o → H' b = some o) (t : LamX.Tabs TT H) : LamX.Tabs TT H' := fun p hp => by
  obtain ⟨ps, h1, h2, h3⟩ := t p hp
  refine ⟨ps, s _ _ (fun _ z => by cases z) (fun _ z => by cases z) h1, h2, fun pos cv hc => ?_⟩
  obtain ⟨c, e1, e2⟩ := h3 pos cv hc
  refine ⟨c, e1, s _ _ (fun _ z => ?_) (fun _ z => ?_) e2⟩
  · unfold LamX.CodeO at z; cases z
  · unfold LamX.CodeO at z; cases z
theorem tabs_kp {TT : List (Addr × Str)} {H H' : Hp} {p : Addr} {kvs : List (Key × V)} (t : LamX.Tabs TT H) (hp : H p = some (.dK kvs)) (k : Kp p H H') : LamX.Tabs TT H' :=
  tabs_move (fun b o _ nd e => k b o (fun z => by rw [z, hp] at e; exact nd _ (Option.some.inj e).symm) e) t
theorem tabs_lst {TT : List (Addr × Str)} {H : Hp} {l : Addr} {ys : List V} {o : HO} (t : LamX.Tabs TT H) (hp : H l = some (.lst ys)) : LamX.Tabs TT (upd H l o) :=
  tabs_move (fun b o nl _ e => by rw [upd_ne (fun z => by rw [z, hp] at e; exact nl _ (Option.some.inj e).symm)]; exact e) t
theorem newT_same {H H' : Hp} {a : Addr} (s : Same H H') (n : NewT H' a) : NewT H a := by
  cases q : H a with
  | none => exact .inl q
  | some o =>
    have q2 := s _ _ q
    rcases n with n | ⟨ps, n⟩
    · rw [n] at q2; cases q2
    · rw [n] at q2; exact .inr ⟨ps, by rw [q]; exact q2.symm⟩
theorem ExtM.sqT2 {m : Addr} {kvs : List (Key × V)} {K : PySem.W.Frag} {H H' : Hp} (hm : H m = some (.dK kvs)) (e : ExtM m H H') (a : Addr) (xs : List V) (h : SqT K H a xs) : SqT K H' a xs := by
  rcases h with (h | ⟨u, h⟩) | h
  · exact .inl (.inl (e _ _ (fun z => by rw [z, hm] at h; cases h) h fun _ z => by cases z))
  · exact .inl (.inr ⟨u, e _ _ (fun z => by rw [z, hm] at h; cases h) h fun _ z => by cases z⟩)
  · exact .inr h
theorem HallAt.extM {p : Addr} {kvs : List (Key × V)} {K : PySem.W.Frag} {H H' : Hp} {h : Addr} {x : HallH} (hp : H p = some (.dK kvs)) (e : ExtM p H H') (hh : HallAt (· ≠ p) K H h x) : HallAt (· ≠ p) K H' h x := by
  obtain ⟨d, st, w, r, dkv, wvs, n1, n2, n3, n4, n5, h1, h2, h3, h4, h5, h6, h7⟩ := hh
  exact ⟨d, st, w, r, dkv, wvs, n1, n2, n3, n4, n5, e _ _ n1 h1 (fun _ z => by cases z), e _ _ n2 h2 (fun _ z => by cases z), DqKv.moveT (fun _ z => z) (fun a xs _ h => ExtM.sqT2 hp e a xs h) _ _ h3, e _ _ n3 h4 (fun _ z => by cases z), e _ _ n4 h5 (fun _ z => by cases z),
    DqAll.moveT (fun _ z => z) (fun a xs _ h => ExtM.sqT2 hp e a xs h) _ _ (tOnly_map tOnly_walk _) h6, e _ _ n5 h7 (fun _ z => by cases z)⟩
theorem ExtM.kp {p : Addr} {H H' : Hp} (k : Kp p H H') : ExtM p H H' := fun b o n e _ => k b o n e
theorem ExtM.extN {m : Addr} {H H1 : Hp} (a : LamX.ExtN H H1) : ExtM m H H1 := fun z o _ e t => a z o e t
theorem ExtM.wr {p l : Addr} {H G : Hp} {o : HO} (e : ExtM p H G) (n : H l = none) : ExtM p H (upd G l o) := fun b u nb eb t => by
  rw [upd_ne (fun z => by rw [z, n] at eb; cases eb)]
  exact e b u nb eb t
/-- what is handed in shows short -/
theorem part_data {p lf : Addr} {K : PySem.W.Frag} {H : Hp} {v : V} {z : DoorH × Option Addr} {rooms : List Str} (h : PartD p lf K H v z) (hd : DoorOk rooms z.1) (hn : ∀ x ∈ rooms, NameOk x) (hz : NameOk z.1.name) : ∃ d, Dq (· ≠ p) K H v d ∧ Neat 3145 3 d ∧ d.hasDict = false := by
  obtain ⟨t, tt, one, other, rows, rvs, rfl, nt, sq, en, rp, dq, l, ntt⟩ := h
  have hone : NameOk one ∧ NameOk other := by
    rcases en with ⟨rfl, rfl⟩ | ⟨_, rfl, rfl⟩
    · exact ⟨hn _ hd.one, hn _ hd.other⟩
    · exact ⟨hn _ hd.other, hn _ hd.one⟩
  have nr : ∀ d ∈ rows.map RowH.data, Neat 156 1 d := fun d hm => by
    obtain ⟨r, hr, rfl⟩ := List.mem_map.mp hm
    have hr' := rp.mem_iff.mp hr
    exact neat_row (hd.rows.each r hr') (hn _ (hd.rows.sub.subset (List.mem_map.mpr ⟨r, hr', rfl⟩)))
  have lr : (rows.map RowH.data).length ≤ 4 := by rw [List.length_map, rp.length_eq]; exact hd.rows.few
  have hdict : PyData.hasDictAll (rows.map RowH.data) = false := rows_noDict rows
  have fin : ∀ rd : PyData, Dq (· ≠ p) K H (.ref tt) rd → Neat 628 2 rd → rd.hasDict = false → ∃ d, Dq (· ≠ p) K H (.ref t) d ∧ Neat 3145 3 d ∧ d.hasDict = false := fun rd q1 q2 q3 => by
    refine ⟨.tuple [.str z.1.name, .str one, .str other, .str z.1.way, rd], .tup nt sq (.cons (.str _) (.cons (.str _) (.cons (.str _) (.cons (.str _) (.cons q1 .nil))))), ?_, ?_⟩
    · refine neat_tup (w := 628) (dp := 2) (m := 5) (fun d hm => ?_) (by simp)
      rcases List.mem_cons.mp hm with rfl | hm
      · exact (neat_name hz).mono (by decide) (by decide)
      rcases List.mem_cons.mp hm with rfl | hm
      · exact (neat_name hone.1).mono (by decide) (by decide)
      rcases List.mem_cons.mp hm with rfl | hm
      · exact (neat_name hone.2).mono (by decide) (by decide)
      rcases List.mem_cons.mp hm with rfl | hm
      · exact (neat_way hd).mono (by decide) (by decide)
      rw [List.mem_singleton.mp hm]
      exact q2
    · simp [PyData.hasDict, PyData.hasDictAll, q3]
  rcases l with ⟨_, l2, _⟩ | ⟨_, l2⟩
  · exact fin (.list (rows.map RowH.data)) (.lst ntt (.inl (.inl l2)) dq) (neat_lst (w := 156) (m := 4) nr lr) (by simpa [PyData.hasDict] using hdict)
  · exact fin (.tuple (rows.map RowH.data)) (.tup ntt l2 dq) (neat_tup (w := 156) (m := 4) nr lr) (by simpa [PyData.hasDict] using hdict)
theorem parts_data {p lf : Addr} {K : PySem.W.Frag} {H : Hp} {rooms : List Str} (hn : ∀ x ∈ rooms, NameOk x) : ∀ {vs : List V} {zs : List (DoorH × Option Addr)}, Paired (PartD p lf K H) vs zs → (∀ z ∈ zs, DoorOk rooms z.1 ∧ NameOk z.1.name) →
    ∃ ds, DqAll (· ≠ p) K H vs ds ∧ (∀ d ∈ ds, Neat 3145 3 d) ∧ PyData.hasDictAll ds = false ∧ ds.length = zs.length
  | [], [], _, _ => ⟨[], .nil, fun _ m => absurd m (by simp), rfl, rfl⟩
  | v :: vs, z :: zs, h, ok => by
    cases h with
    | cons h1 h2 =>
      obtain ⟨d, q1, q2, q3⟩ := part_data h1 (ok z List.mem_cons_self).1 hn (ok z List.mem_cons_self).2
      obtain ⟨ds, g1, g2, g3, g4⟩ := parts_data hn h2 fun y hy => ok y (List.mem_cons_of_mem _ hy)
      refine ⟨d :: ds, .cons q1 g1, fun e he => ?_, by simp only [PyData.hasDictAll, q3, g3, Bool.or_self], by simp only [List.length_cons, g4]⟩
      rcases List.mem_cons.mp he with rfl | he
      · exact q2
      · exact g2 e he
theorem walks_dict : ∀ ws : List WalkH, PyData.hasDictAll (ws.map WalkH.data) = false := walks_noDict
end Wd
namespace Wd
open PySem PySem.Spec PyProof.Rows L2
theorem strs_noDict : ∀ l : List Str, PyData.hasDictAll (l.map PyData.str) = false
  | [] => rfl
  | x :: r => by rw [List.map_cons]; simp only [PyData.hasDictAll, strs_noDict r, Bool.or_false]; rfl
theorem tyX_sqT {K : PySem.W.Frag} {H : Hp} {a : Addr} {xs : List V} (h : SqT K H a xs) : TyX K H (.ref a) (.type "tuple") := by
  rcases h with (h | ⟨u, h⟩) | ⟨o, its, n, h1, h2, _⟩
  · exact .base (.tup h)
  · exact .fTuple h
  · exact .kTuple h1 h2
end Wd

set_option Elab.async false
set_option linter.all false
set_option maxRecDepth 100000
set_option maxHeartbeats 4000000
/-! count of texts in a list or in a tuple. -/
namespace Wd
open PySem PySem.Spec PyProof.Rows L2
def eqs (k : Str) (v : Value) : Bool := match v with
  | .str n _ => n.cps.toList == k.cps.toList
  | _ => false
theorem eqs_at {k : Str} {t : Tok} : ∀ {us : List Value} {ns : List Str}, Vals (ns.map V.str) us → ∀ y ∈ us, MeetsSeq.EqGives y (.str k t) (eqs k y)
  | [], [], _, y, hy => by cases hy
  | u :: us, n :: ns, .cons r rs, y, hy => by
    obtain ⟨t', rfl⟩ := r
    rcases List.mem_cons.mp hy with rfl | hy
    · exact SeqRoads2.EqGives.str n k t' t
    · exact eqs_at rs y hy
theorem str_ext {a b : Str} (h : a.cps.toList = b.cps.toList) : a = b := by
  cases a; cases b
  simp only at h
  congr 1
  exact Array.toList_inj.mp h
theorem eqs_count {k : Str} : ∀ {us : List Value} {ns : List Str}, Vals (ns.map V.str) us → us.countP (eqs k) = ns.count k
  | [], [], _ => rfl
  | u :: us, n :: ns, .cons r rs => by
    obtain ⟨t', rfl⟩ := r
    rw [List.countP_cons, List.count_cons, eqs_count rs]
    congr 1
    by_cases e : n = k
    · subst e
      simp [eqs]
    · have : eqs k (.str n t') = false := by
        show (n.cps.toList == k.cps.toList) = false
        exact beq_eq_false_iff_ne.mpr fun z => e (str_ext z)
      simp [this, e]
section
variable {X : Cx}
def rCntS (K : PySem.W.Frag) : V → List V → Hp → VK → Prop := fun x xs H Q => ∃ (p : Addr) (ns : List Str) (k : Str), x = .ref p ∧ xs = [.str k] ∧ SqL K H p (ns.map V.str) ∧ Q (.int (ns.count k : Nat)) H
theorem mt_countL {K : PySem.W.Frag} (hK : X.K = K := by rfl) : MtR X "list.count" (rCntS K) := by
  subst hK
  intro pins s σ H x xs v us Q I rx rxs h
  obtain ⟨p, ns, k, rfl, rfl, hs, q⟩ := h
  cases rx
  obtain ⟨u, rfl, ru⟩ := rxs.one
  obtain ⟨t, rfl⟩ := ru
  obtain ⟨its, rv, ⟨⟨cls, dd, data, sl⟩, n, ho, hc, hdn, hd⟩, hlen⟩ := I.list hs
  simp only at hc hd
  subst hc hd
  refine call_meets PySem.F.slot_list_count ⟨_, ho, rfl⟩ PySem.F.entry_list_count (PySem.F.args_list_count_2 _ _)
    (SeqAt.list_countAt p its.toArray n dd sl (.str k t) (eqs k)) ⟨ho, fun y hy => (eqs_at rv y (by simpa using hy)).at _ _, ?_⟩
  refine ⟨.int (ns.count k : Nat), H, I.tok _, ⟨s.toks, ?_⟩, q⟩
  show Value.int ((its.toArray.toList.countP (eqs k) : Nat) : Int) s.toks = Value.int ((ns.count k : Nat) : Int) s.toks
  rw [show its.toArray.toList = its from by simp, eqs_count rv]
def rCntT (K : PySem.W.Frag) : V → List V → Hp → VK → Prop := fun x xs H Q => ∃ (p : Addr) (ns : List Str) (k : Str), x = .ref p ∧ xs = [.str k] ∧ SqT K H p (ns.map V.str) ∧ Q (.int (ns.count k : Nat)) H
theorem mt_countT {K : PySem.W.Frag} (hK : X.K = K := by rfl) : MtR X "tuple.count" (rCntT K) := by
  subst hK
  intro pins s σ H x xs v us Q I rx rxs h
  obtain ⟨p, ns, k, rfl, rfl, hs, q⟩ := h
  cases rx
  obtain ⟨u, rfl, ru⟩ := rxs.one
  obtain ⟨t, rfl⟩ := ru
  obtain ⟨its, rv, ⟨⟨cls, dd, data, sl⟩, ho, hc, n, hd⟩, hlen⟩ := I.tuple hs
  simp only at hc hd
  subst hc hd
  refine call_meets PySem.F.slot_tuple_count ⟨_, ho, rfl⟩ PySem.F.entry_tuple_count (PySem.F.args_tuple_count_2 _ _)
    (SeqAt.tuple_countAt p its.toArray n dd sl (.str k t) (eqs k)) ⟨ho, fun y hy => (eqs_at rv y (by simpa using hy)).at _ _, ?_⟩
  refine ⟨.int (ns.count k : Nat), H, I.tok _, ⟨s.toks, ?_⟩, q⟩
  show Value.int ((its.toArray.toList.countP (eqs k) : Nat) : Int) s.toks = Value.int ((ns.count k : Nat) : Int) s.toks
  rw [show its.toArray.toList = its from by simp, eqs_count rv]
theorem pe_bmK {K : PySem.W.Frag} {T id name : String} {r : V → List V → Hp → VK → Prop} {o e : Expr} {es : List Expr} {to : TE} {t : TA} {apos cpos : Pos} (pa : PlainAttrs T) (slot : Slot T name id) (hty : typeOf (.builtin id) = pure (.type "method_descriptor")) (hm : MtR X id r) (ho : PE X o to) (ha : PA X (e :: es) t) (hK : X.K = K := by rfl)
    (hbase : attributeBase o name X.env (eval o X.env) = eval o X.env := by rfl)
    (hfew : ((backTo cpos (starEach (e :: es) X.env)).all (fun x => !x.1) && (backToKw cpos (keywordEach [] X.env)).all (fun x => x.1.isSome)
      && decide ((e :: es).length + ([] : List Keyword).length + (if ([] : List Keyword).isEmpty then 0 else 1) < 30)) = true := by rfl)
    (hline : (apos.endLine == cpos.line) = true := by rfl) (hs : starEach (e :: es) X.env = (false, eval e X.env) :: starEach es X.env := by rfl) (hplain : (backTo cpos (starEach es X.env)).any (·.1) = false := by rfl) :
    PE X (.Call (.Attribute o name apos) (e :: es) [] cpos) (tBM K T r to t) := by
  subst hK
  exact pe_bm pa slot hty hm ho ha hbase hfew hline hs hplain
end
end Wd

set_option Elab.async false
set_option linter.all false
set_option maxRecDepth 100000
set_option maxHeartbeats 4000000
/-! Tuples whose object is known to have no dict: their methods may be called. -/
namespace Wd
open PySem PySem.Spec PyProof.Rows L2
def FT (H : Hp) (a : Addr) (xs : List V) : Prop := ∃ o : Obj, H a = some (.frz o (.tup xs)) ∧ o.dict = none
theorem FT.sqT {K : PySem.W.Frag} {H : Hp} {a : Addr} {xs : List V} (h : FT H a xs) : SqT K H a xs := by
  obtain ⟨o, h, _⟩ := h
  exact .inl (.inr ⟨o, h⟩)
theorem FT.at {H H' : Hp} {a : Addr} {xs : List V} (s : ∀ o, (∀ ps, o ≠ .tbl ps) → (∀ l, o ≠ .lst l) → (∀ l, o ≠ .dK l) → H a = some o → H' a = some o) (h : FT H a xs) : FT H' a xs := by
  obtain ⟨o, h, d⟩ := h
  exact ⟨o, s _ (fun _ z => by cases z) (fun _ z => by cases z) (fun _ z => by cases z) h, d⟩
theorem FT.same {H H' : Hp} {a : Addr} {xs : List V} (s : Same H H') (h : FT H a xs) : FT H' a xs := h.at fun o _ _ _ e => s _ o e
theorem FT.ne {H : Hp} {a b : Addr} {xs ys : List V} (h : FT H a xs) (g : H b = some (.lst ys)) : a ≠ b := fun z => by
  obtain ⟨o, h, _⟩ := h
  rw [z, g] at h
  cases h
theorem FT.neD {H : Hp} {a b : Addr} {xs : List V} {kvs : List (Key × V)} (h : FT H a xs) (g : H b = some (.dK kvs)) : a ≠ b := fun z => by
  obtain ⟨o, h, _⟩ := h
  rw [z, g] at h
  cases h
theorem FT.upd {H : Hp} {a b : Addr} {xs : List V} {o : HO} (h : FT H a xs) (n : a ≠ b) : FT (upd H b o) a xs := h.at fun _ _ _ _ e => by rw [upd_ne n]; exact e
def kTupF (K : PySem.W.Frag) (x : V) (H : Hp) (Q : VK) : Prop := ∃ p xs, x = .ref p ∧ SqL K H p xs ∧ ∀ q (o : Obj), H q = none → o.dict = none → Q (.ref q) (upd H q (.frz o (.tup xs)))
section
variable {X : Cx} {a : Expr} {ta : TE}
theorem rl_tupleF {K : PySem.W.Frag} (pins : List (Addr × Obj)) (s : Shared) (σ : L2.St) (H : Hp) (x : V) (v : Value) (Q : VK) (I : Inv X pins σ H s) (r : RelV x v) (h : kTupF X.K x H Q) :
    wpAny (model X.prog X.w) X.A (call (.type "tuple") [v]) (EP X pins σ Q) X.xe s := by
  obtain ⟨p, xs, rfl, hs, q⟩ := h
  obtain rfl : v = .ref p := r
  obtain ⟨its, rv, pl, hz⟩ := I.list hs
  refine call_tuple_list pl.isList (fun h' hk => ?_) (by rw [List.size_toArray, ← rv.length]; exact hz)
  have I1 : Inv X pins σ H { s with heap := h' } := I.kept (t' := s.toks) hk
  have I2 : Inv X pins σ (upd H h'.objs.size (.frz { cls := .type "tuple", data := .seq its.toArray } (.tup xs))) { s with heap := h'.push { cls := .type "tuple", data := .seq its.toArray } } :=
    I1.laid (t' := s.toks) (fun b o e => Heap.get?_push_of_some _ e) (Nat.le_refl _) (show ObjOk X.prog X.w _ _ _ (.frz _ (.tup xs)) from ⟨Heap.get?_push_size _ rfl, hz, its, rv, IsTup.new _ _⟩)
  exact ⟨.ref h'.objs.size, upd H h'.objs.size _, I2, rfl, q _ _ (I1.hok.fresh (Nat.le_refl _)) rfl⟩
theorem pe_tupleF {K : PySem.W.Frag} {p pos : Pos} (hg : Gl X "tuple") (hm : X.mg "tuple" = none) (ha : PE X a ta) (hK : X.K = K := by rfl) (na : starEach [a] X.env = (false, eval a X.env) :: starEach [] X.env := by rfl) :
    PE X (.Call (.Name "tuple" p) [a] [] pos) (tThen ta (kTupF K)) := by
  subst hK
  refine ⟨fun pins s σ H Q I h => ?_⟩
  exact Call_ (ld_blt I hg hm boot_tuple (PyProof.Rows.callWith_type1 (one_arg ha I h (fun v s2 x H2 I2 r q => rl_tupleF (K := X.K) pins s2 σ H2 x v Q I2 r q) na) na))
/-- a tuple that is written -/
def tTupF (t : TA) : TE := fun σ H Q => t σ H fun xs H1 => xs.length ≤ sizeLine ∧ ∀ p (o : Obj), H1 p = none → o.dict = none → Q (.ref p) (upd H1 p (.frz o (.tup xs)))
theorem pe_tupF {es : List Expr} {t : TA} {x1} {pos : Pos} (h : PA X es t) : PE X (.Tuple es x1 pos) (tTupF t) := by
  refine ⟨fun pins s σ H Q I hq => ?_⟩
  refine wpAny_Tuple_spliced (thn (h.run pos pins s σ H _ I hq) fun us s1 ⟨xs, H1, I1, r, z, q⟩ => ⟨by rw [← r.length]; exact z, ?_⟩)
  have hf : H1 s1.heap.objs.size = none := I1.hok.fresh (Nat.le_refl _)
  refine ⟨.ref s1.heap.objs.size, upd H1 s1.heap.objs.size _, I1.laid (t' := s1.toks) (fun b u e => Heap.get?_push_of_some _ e) (Nat.le_refl _) ?_, rfl, q _ { cls := .type "tuple", data := .seq us.toArray } hf rfl⟩
  exact ⟨Heap.get?_push_size _ rfl, z, us, r, ⟨_, Heap.get?_push_size _ rfl, rfl, _, rfl⟩⟩
/-- a method of such a tuple -/
def tBMT (r : V → List V → Hp → VK → Prop) (to : TE) (t : TA) : TE := fun σ H Q => to σ H fun x H1 => (∃ p xs, x = .ref p ∧ FT H1 p xs) ∧ t σ H1 fun xs H2 => r x xs H2 Q
theorem pe_bmT {id name : String} {r : V → List V → Hp → VK → Prop} {o e : Expr} {es : List Expr} {to : TE} {t : TA} {apos cpos : Pos} (pa : PlainAttrs "tuple") (slot : Slot "tuple" name id) (hty : typeOf (.builtin id) = pure (.type "method_descriptor")) (hm : MtR X id r) (ho : PE X o to) (ha : PA X (e :: es) t)
    (hbase : attributeBase o name X.env (eval o X.env) = eval o X.env := by rfl)
    (hfew : ((backTo cpos (starEach (e :: es) X.env)).all (fun x => !x.1) && (backToKw cpos (keywordEach [] X.env)).all (fun x => x.1.isSome)
      && decide ((e :: es).length + ([] : List Keyword).length + (if ([] : List Keyword).isEmpty then 0 else 1) < 30)) = true := by rfl)
    (hline : (apos.endLine == cpos.line) = true := by rfl) (hs : starEach (e :: es) X.env = (false, eval e X.env) :: starEach es X.env := by rfl) (hplain : (backTo cpos (starEach es X.env)).any (·.1) = false := by rfl) :
    PE X (.Call (.Attribute o name apos) (e :: es) [] cpos) (tBMT r to t) := by
  refine ⟨fun pins s σ H Q I h => ?_⟩
  refine wpAny_Call_method_late hbase hfew hline rfl (thn (ho.run pins s σ H _ I h) fun v s1 ⟨x, H1, I1, r1, ⟨p, xs, ex, ob, hp, hd⟩, q1⟩ => ?_)
  subst ex
  obtain rfl : v = .ref p := r1
  obtain ⟨hg, hz, its, rv, o', ho', hc', _⟩ := I1.hok p _ hp
  have eo : o' = ob := by
    rw [hg] at ho'
    exact (Option.some.inj ho').symm
  subst eo
  refine ⟨"tuple", id, pa, slot, hty, ⟨o', ho', hc'⟩, fun a e => ?_, ?_⟩
  · cases e
    exact ⟨o', ho', hd⟩
  have hA := ha.run cpos pins s1 σ H1 _ I1 q1
  rw [hs] at hA ⊢
  refine Calls.callWith_builtin (by show (false || (backTo cpos (starEach es X.env)).any (·.1)) = false; rw [hplain] <;> rfl) (Calls.evalArgs_plain ?_)
  exact thn hA fun us s2 ⟨vs, H2, I2, r2, q2⟩ => hm pins s2 σ H2 (.ref p) vs _ us Q I2 rfl r2 q2
end
end Wd

set_option Elab.async false
set_option linter.all false
set_option maxRecDepth 100000
set_option maxHeartbeats 4000000
/-! Stands as plain data. -/
namespace Wd
open PySem PySem.Spec PyProof.Rows L2
structure StandH (x : HallH) (t : Nat) (rs ps : List Str) : Prop where
  t : t < x.walkers.length
  rl : rs.length = x.walkers.length
  rin : ∀ r ∈ rs, r ∈ x.rooms
  pl : ps.length = x.stones.length
  pin : ∀ q ∈ ps, q ∈ x.rooms ∨ q ∈ x.walkers.map WalkH.name
  cnt : ∀ z ∈ x.walkers, (ps.count z.name : Int) ≤ z.hands
def standD (t : Nat) (rs ps : List Str) : PyData := .tuple [.int t, .tuple (rs.map PyData.str), .tuple (ps.map PyData.str)]
def StandAt (K : PySem.W.Frag) (H : Hp) (v : V) (t : Nat) (rs ps : List Str) : Prop := ∃ s tr tp : Addr, v = .ref s ∧ SqT K H s [.int t, .ref tr, .ref tp] ∧ SqT K H tr (rs.map V.str) ∧ FT H tp (ps.map V.str)
section
variable {K : PySem.W.Frag} {H H' : Hp} {v : V} {t : Nat} {rs ps : List Str}
theorem StandAt.move (s : ∀ a xs, SqT K H a xs → SqT K H' a xs) (f : ∀ a xs, FT H a xs → FT H' a xs) (h : StandAt K H v t rs ps) : StandAt K H' v t rs ps := by
  obtain ⟨a, b, c, e, h1, h2, h3⟩ := h
  exact ⟨a, b, c, e, s _ _ h1, s _ _ h2, f _ _ h3⟩
theorem StandAt.dq (h : StandAt K H v t rs ps) : Dq anyA K H v (standD t rs ps) := by
  obtain ⟨a, b, c, rfl, h1, h2, h3⟩ := h
  exact .tup trivial h1 (.cons (.int _) (.cons (.tup trivial h2 (DqAll.strs rs)) (.cons (.tup trivial h3.sqT (DqAll.strs ps)) .nil)))
theorem same_sqT (s : Same H H') {a : Addr} {xs : List V} (h : SqT K H a xs) : SqT K H' a xs := sqT_at (fun o => s _ o) h
theorem StandAt.same (s : Same H H') (h : StandAt K H v t rs ps) : StandAt K H' v t rs ps := h.move (fun a xs e => same_sqT s e) fun a xs e => e.same s
theorem sqT_frz {l a : Addr} {kvs : List (Key × V)} {xs : List V} {u : _} {o : HO} (e : H l = some (.frz u (.dK kvs))) (h : SqT K H a xs) : SqT K (upd H l o) a xs := by
  rcases h with (h | ⟨u, h⟩) | h
  · exact .inl (.inl (by rw [upd_ne (fun z => by rw [z, e] at h; cases h)]; exact h))
  · exact .inl (.inr ⟨u, by rw [upd_ne (fun z => by rw [z, e] at h; cases h)]; exact h⟩)
  · exact .inr h
theorem sqT_dK {l a : Addr} {kvs : List (Key × V)} {xs : List V} {o : HO} (e : H l = some (.dK kvs)) (h : SqT K H a xs) : SqT K (upd H l o) a xs := by
  rcases h with (h | ⟨u, h⟩) | h
  · exact .inl (.inl (by rw [upd_ne (fun z => by rw [z, e] at h; cases h)]; exact h))
  · exact .inl (.inr ⟨u, by rw [upd_ne (fun z => by rw [z, e] at h; cases h)]; exact h⟩)
  · exact .inr h
theorem sqL_dK {l a : Addr} {kvs : List (Key × V)} {xs : List V} {o : HO} (e : H l = some (.dK kvs)) (h : SqL K H a xs) : SqL K (upd H l o) a xs := by
  rcases h with (h | ⟨u, h⟩) | h
  · exact .inl (.inl (by rw [upd_ne (fun z => by rw [z, e] at h; cases h)]; exact h))
  · exact .inl (.inr ⟨u, by rw [upd_ne (fun z => by rw [z, e] at h; cases h)]; exact h⟩)
  · exact .inr h
theorem sqL_frz {l a : Addr} {kvs : List (Key × V)} {xs : List V} {u : _} {o : HO} (e : H l = some (.frz u (.dK kvs))) (h : SqL K H a xs) : SqL K (upd H l o) a xs := by
  rcases h with (h | ⟨u, h⟩) | h
  · exact .inl (.inl (by rw [upd_ne (fun z => by rw [z, e] at h; cases h)]; exact h))
  · exact .inl (.inr ⟨u, by rw [upd_ne (fun z => by rw [z, e] at h; cases h)]; exact h⟩)
  · exact .inr h
end
end Wd

set_option Elab.async false
set_option linter.all false
set_option maxRecDepth 100000
set_option maxHeartbeats 4000000
/-! name = {..} on one line, the name a local. -/
namespace Wd
open PySem PySem.Spec PyProof.Rows L2
section
variable {X : Cx}
theorem ps_setDc {i : Nat} {y : Str} {py : Pos} {kx vx tg iter : Expr} {ifs : List Expr} {scope : Scope} {own : List (Str × Nat)} {pos spos : Pos} {wi : TI} {g : TG} {tt : TT} {tk tv : TE} (hc : X.calm = true) (hN : X.N.Nodup) (hy : X.N[i]? = some y) (hyl : X.env.scope.names.lookup y = some .local)
    (hsw : swapsWith (.DictComp kx vx [⟨tg, iter, ifs, 0⟩] scope pos) (some (.Name y py)) spos.line X.env = pure true) (hi : PI X tg iter wi) (ok : BlkOk X.N X.env.scope scope own)
    (hg : ∀ (s : Shared) (H : Hp) (C : Addr) (cl : List (Str × Addr)) (fp : List Addr), PG (X.blk s H scope (compEnvC scope cl C X.env) fp) tg g) (ht : ∀ (s : Shared) (H : Hp) (C : Addr) (cl : List (Str × Addr)) (fp : List Addr), PTs (X.blk s H scope (compEnvC scope cl C X.env) fp) ifs tt)
    (hk : ∀ (s : Shared) (H : Hp) (C : Addr) (cl : List (Str × Addr)) (fp : List Addr), PE (X.blk s H scope (compEnvC scope cl C X.env) fp) kx tk)
    (he : ∀ (s : Shared) (H : Hp) (C : Addr) (cl : List (Str × Addr)) (fp : List Addr), PE (X.blk s H scope (compEnvC scope cl C X.env) fp) vx tv) (hs : ∀ x, foldedSetIterable iter X.env x = pure x := by intro _; rfl) :
    PS X (.Assign [.Name y py] (.DictComp kx vx [⟨tg, iter, ifs, 0⟩] scope pos) spos) (tAsg (tDc wi g tt tk tv (own.map (·.2))) (gName i)) := by
  refine ⟨fun pins s σ H D I h => ?_⟩
  rw [exec_Assign_Name_used _ _ _ _ hsw]
  refine wpAny_bind (wpAny_standAt (wpAny_bind ?_))
  show wpAny _ X.A (do let _ ← comprehension (.DictComp kx vx [⟨tg, iter, ifs, 0⟩] scope pos) scope X.env (firstIterPos [⟨tg, iter, ifs, 0⟩] pos) newDict false (eval iter X.env) (some (assign (.Name y py) X.env))) _ _ s
  have h : tDc wi g tt tk tv (own.map (·.2)) σ H (fun x H1 => gName i x σ H1 D.nx) := h
  refine wpAny_bind (thn (dc_core (Qf := fun _ s' => SP X pins D .next s') hc hN I hi ok hg ht hk he hs h fun L C s' m H' I' q hn f => ?_) fun _ s' hq => wpAny_pure (wpAny_pure hq))
  show wpAny _ _ (assign (.Name y py) X.env (.ref L)) _ _ _
  refine wpAny_assign_Name (store_ok2 (v := V.ref L) I' hN hy (.inl hyl) rfl (fun s2 I2 ⟨a, sb, ha⟩ => ?_) (.inr hyl))
  obtain ⟨f0, f1, f2, f3, f4, f5⟩ := f
  have haC : C ≠ a := by
    rcases ha with z | z
    · rw [z]; exact f1
    · exact fun e => f4 y a z e.symm
  refine ⟨m, hn.sameBut sb haC, fun h3 sb3 => ?_⟩
  exact ⟨_, H', I2.turned (t' := s2.toks) (fun b o hb e => (sb3.2 b hb).trans e) f0 f1 f3 f4 f5, q⟩
theorem sw_trueD {kx vx : Expr} {gs : List Comprehension} {scope : Scope} {pos py : Pos} {y : Str} {l : Nat} {env : Env} (hk : env.scope.kind = .function) (hy : env.scope.names.lookup y = some .local) (hl : (py.line == pos.line) = true)
    (ha : (scope.names.any fun (n, k) => n == y && (k == .local || k == .cell)) = false) : swapsWith (.DictComp kx vx gs scope pos) (some (.Name y py)) l env = pure true := by
  have ky : env.kindOf y = some .local := hy
  have hb : env.blockKind = .function := by unfold Env.blockKind; rw [hk]; rfl
  unfold swapsWith
  simp only [hb, ky, ha, Expr.pos, hl]
  rfl
end
end Wd

set_option Elab.async false
set_option linter.all false
set_option maxRecDepth 100000
set_option maxHeartbeats 4000000
/-! zip of a list and a tuple; dict(zip(..)) of them. -/
namespace Wd
open PySem PySem.Spec PyProof.Rows L2 RZ Builtin
theorem draws_tup {prog : Program} {w : World} {A : Around} (hA : A.handled = none) (it l : Addr) (ne : l ≠ it) (ys : Array Value) :
    Draws prog w A it [it, l] ys.size (fun i v => ys[i]? = some v) (fun i h => h.IsTupleIter it l i ∧ h.IsTuple l ys) where
  live := fun _ _ q => let ⟨o, e, _⟩ := q.1; ⟨o, e⟩
  frame := fun _ _ _ q k => ⟨q.1.at fun o e => k it (by simp) o e, q.2.at fun o e => k l (by simp) o e⟩
  item := fun i z R F hi q g => by
    refine nextOf_tuple_item q.1 q.2 (x := ys[i]) (by simp [hi]) fun g1 t1 b1 => ?_
    exact g _ g1 z.toks (by simp [hi]) ⟨t1, q.2.extBut b1.extBut ne⟩ b1
  done := fun z R F q g => nextOf_tuple_end hA q.1 q.2 (by simp) fun h1 e b x => g h1 e b x
abbrev mz1 (h : Heap) (a : Addr) : Heap := h.push { cls := .type "list_iterator", data := .fields #[.ref a, .int 0 0] }
abbrev mz2 (h : Heap) (a b : Addr) : Heap := (mz1 h a).push { cls := .type "tuple_iterator", data := .fields #[.ref b, .int 0 0] }
abbrev mz3 (h : Heap) (a b : Addr) : Heap := (mz2 h a b).push { cls := .type "tuple", data := .seq #[.ref h.objs.size, .ref (mz1 h a).objs.size] }
abbrev mz4 (h : Heap) (a b : Addr) : Heap := (mz3 h a b).push { cls := .type "tuple", data := .seq #[.none, .none] }
abbrev mz5 (h : Heap) (a b : Addr) : Heap := (mz4 h a b).push { cls := .type "zip", data := .fields #[.none, .bool false, .bool false, .ref (mz2 h a b).objs.size, .ref (mz3 h a b).objs.size] }
theorem meets_mz (a b : Addr) (xs ys : Array Value) :
    Meets (Builtin.«zip.__new__» ⟨[.type "zip", .ref a, .ref b], []⟩) (fun _ R z => z.heap.IsList a xs ∧ z.heap.IsTuple b ys ∧
      R (.ok (.ret (.ref (mz4 z.heap a b).objs.size))) { z with heap := mz5 z.heap a b }) :=
  .of_wp fun prog w A R z h => by
    obtain ⟨g0, gn, df, tk, os⟩ := z; obtain ⟨la, tb, h⟩ := h
    have hsub := sub_zip
    have la' : Heap.IsList (Shared.heap ⟨g0, gn, df, tk, os⟩) a xs := la
    have tb' : Heap.IsTuple (Shared.heap ⟨g0.push { cls := .type "list_iterator", data := .fields #[.ref a, .int 0 0] }, gn, df, tk, os⟩) b ys := Heap.IsTuple.push tb _
    wp_walk using wpAny_pyIter_list la', wpAny_pyIter_tuple tb'
    exact ⟨_, rfl, h⟩
section
variable {prog : Program} {w : World} {A : Around} {E : Value → Shared → Prop} {z0 : Shared}
theorem call_mz {a b : Addr} {xs ys : Array Value} {Q : Value → Shared → Prop} (la : z0.heap.IsList a xs) (tb : z0.heap.IsTuple b ys)
    (q : ∀ h', IsZip h' (z0.heap.objs.size + 4) (z0.heap.objs.size + 2) (z0.heap.objs.size + 3) .none → IsPair h' (z0.heap.objs.size + 2) (.ref z0.heap.objs.size) (.ref (z0.heap.objs.size + 1)) →
      IsPair h' (z0.heap.objs.size + 3) .none .none → h'.IsListIter z0.heap.objs.size a 0 → h'.IsTupleIter (z0.heap.objs.size + 1) b 0 → h'.objs.size = z0.heap.objs.size + 5 →
      (∀ c o, z0.heap.get? c = some o → h'.get? c = some o) → Q (.ref (z0.heap.objs.size + 4)) { z0 with heap := h' }) :
    wpAny (model prog w) A (call (.type "zip") [.ref a, .ref b]) Q E z0 := by
  refine callType_new F.called_zip (by decide) (F.typeCall_zip_2 _ _) (F.newCall_zip_2 _ _) (fun obj => F.args_object_init_3 obj _ _) F.entry_zip_new (meets_mz a b xs ys) ⟨la, tb, ?_⟩
  have n1 : (mz1 z0.heap a).objs.size = z0.heap.objs.size + 1 := Heap.size_push ..
  have n2 : (mz2 z0.heap a b).objs.size = z0.heap.objs.size + 2 := by rw [Heap.size_push, n1]
  have n3 : (mz3 z0.heap a b).objs.size = z0.heap.objs.size + 3 := by rw [Heap.size_push, n2]
  have n4 : (mz4 z0.heap a b).objs.size = z0.heap.objs.size + 4 := by rw [Heap.size_push, n3]
  have n5 : (mz5 z0.heap a b).objs.size = z0.heap.objs.size + 5 := by rw [Heap.size_push, n4]
  have e5 : (mz5 z0.heap a b).get? (mz4 z0.heap a b).objs.size = some _ := Heap.get?_push_size _ rfl
  have e4 : (mz5 z0.heap a b).get? (mz3 z0.heap a b).objs.size = some _ := Heap.get?_push_of_some _ (Heap.get?_push_size _ rfl)
  have e3 : (mz5 z0.heap a b).get? (mz2 z0.heap a b).objs.size = some _ := Heap.get?_push_of_some _ (Heap.get?_push_of_some _ (Heap.get?_push_size _ rfl))
  have e2 : (mz5 z0.heap a b).get? (mz1 z0.heap a).objs.size = some _ := Heap.get?_push_of_some _ (Heap.get?_push_of_some _ (Heap.get?_push_of_some _ (Heap.get?_push_size _ rfl)))
  have e1 : (mz5 z0.heap a b).get? z0.heap.objs.size = some _ := Heap.get?_push_of_some _ (Heap.get?_push_of_some _ (Heap.get?_push_of_some _ (Heap.get?_push_of_some _ (Heap.get?_push_size _ rfl))))
  show _ ∧ _
  rw [n2, n3, n4] at e5
  rw [n1, n2] at e3
  rw [n3] at e4
  rw [n1] at e2
  rw [n4]
  refine ⟨⟨_, e5, rfl⟩, q _ e5 e3 e4 ⟨_, e1, rfl, rfl⟩ ⟨_, e2, rfl, rfl⟩ n5 fun c o x => ?_⟩
  exact Heap.get?_push_of_some _ (Heap.get?_push_of_some _ (Heap.get?_push_of_some _ (Heap.get?_push_of_some _ (Heap.get?_push_of_some _ x))))
end
theorem sep_of {z TI TO i1 i2 a b : Addr} (D : ZipApart z TI TO i1 i2 a b) : ZipSep2 z TI TO i1 i2 [i1, a] [i2, b] := by
  obtain ⟨d1, d2, d3, d4, d5, d6, d7, d8, d9, d10, d11, d12, d13, d14, d15, d16, d17, d18⟩ := D
  refine ⟨d1, d2, d5, d6, by simp, ?_, ?_, d7, by simp, ?_, ?_, ?_, ?_⟩ <;> simp only [List.mem_cons, List.not_mem_nil, or_false, not_or]
  · exact ⟨d3.symm, d11.symm⟩
  · exact ⟨d8, d12.symm⟩
  · exact ⟨d4.symm, d15.symm⟩
  · exact ⟨d9, d16.symm⟩
  · exact ⟨d10, d17.symm⟩
  · exact ⟨d10.symm, d14.symm⟩
/-- the list at a and the tuple at b as they stand at each turn, the items in new pairs -/
def ItzM (K : PySem.W.Frag) (a b : Addr) : It :=
  ⟨fun i H => ∃ (xs ys : List V) (x y : V), SqL K H a xs ∧ SqT K H b ys ∧ xs[i]? = some x ∧ ys[i]? = some y,
    fun i H v H' => ∃ T x y, v = .ref T ∧ H T = none ∧ H' = upd H T (.tup [x, y]) ∧ (∀ xs, SqL K H a xs → xs[i]? = some x) ∧ ∀ ys, SqT K H b ys → ys[i]? = some y,
    fun i H => ∃ xs ys : List V, SqL K H a xs ∧ SqT K H b ys ∧ ((xs.length = i ∧ i ≤ ys.length) ∨ (ys.length = i ∧ i ≤ xs.length))⟩
theorem turn_mz {P : Program} {w : World} {K : PySem.W.Frag} {elts : List Expr} {kk : Nat} {tpos : Pos} {a b z TI TO i1 i2 : Addr} (D : ZipApart z TI TO i1 i2 a b) :
    Turn P w K (.Tuple elts kk tpos) (ItzM K a b) [z, TI, TO, i1, i2] z (fun i h => IsZip h z TI TO .none ∧ IsPair h TI (.ref i1) (.ref i2) ∧ (∃ x y, IsPair h TO x y) ∧ h.IsListIter i1 a i ∧ h.IsTupleIter i2 b i) where
  mem := by simp
  obj := fun i h q c hc => by
    obtain ⟨q1, q2, ⟨x, y, q3⟩, ⟨o1, e1, _, d1⟩, ⟨o2, e2, _, d2⟩⟩ := q
    simp only [List.mem_cons, List.not_mem_nil, or_false] at hc
    rcases hc with rfl | rfl | rfl | rfl | rfl
    · exact ⟨_, q1, fun v t => nomatch t⟩
    · exact ⟨_, q2, fun v t => nomatch t⟩
    · exact ⟨_, q3, fun v t => nomatch t⟩
    · exact ⟨o1, e1, fun v t => by rw [d1] at t; cases t⟩
    · exact ⟨o2, e2, fun v t => by rw [d2] at t; cases t⟩
  keep := fun i h h' q k => by
    obtain ⟨q1, q2, ⟨x, y, q3⟩, q4, q5⟩ := q
    exact ⟨k z (by simp) _ q1, k TI (by simp) _ q2, ⟨x, y, k TO (by simp) _ q3⟩, q4.at fun o t => k i1 (by simp) o t, q5.at fun o t => k i2 (by simp) o t⟩
  item := by
    intro X hP hw hK hc i pins s0 σ H E I hf q hg
    subst hP hw hK
    obtain ⟨q1, q2, ⟨x0, y0, q3⟩, q4, q5⟩ := q
    obtain ⟨xs, ys, x, y, hqx, hqy, hx, hy⟩ := hg
    obtain ⟨us, rv, p, _⟩ := I.list hqx
    obtain ⟨vs, rv2, p2, _⟩ := I.tuple hqy
    obtain ⟨u, hu, ru⟩ := rv.get hx
    obtain ⟨v, hv, rv'⟩ := rv2.get hy
    have zl : z < s0.heap.objs.size := Heap.lt_size q1
    have hA : X.A.in1.handled = none := I.ok.hd hc
    refine wpAny_pyNext_zipD2_item (sep_of D) (Draws.list hA i1 a D.l1i1 us.toArray) (draws_tup hA i2 b D.l2i2 vs.toArray) q1 q2 q3 ⟨q4, p.isList⟩ ⟨q5, p2⟩ (by
      have := (List.getElem?_eq_some_iff.mp hu).1; simpa using this) (by
      have := (List.getElem?_eq_some_iff.mp hv).1; simpa using this) fun x1 x2 h1 tk g1 g2 g3 g4 g5 g6 g7 g8 hk => ?_
    have e1 : x1 = u := by
      have t : us[i]? = some x1 := by simpa using g1
      rw [hu] at t
      exact (Option.some.inj t).symm
    have e2 : x2 = v := by
      have t : vs[i]? = some x2 := by simpa using g2
      rw [hv] at t
      exact (Option.some.inj t).symm
    subst e1 e2
    refine ⟨_, rfl, wpAny_letOwnedTupleGo_zip (s := { s0 with heap := h1, toks := tk }) g3 fun h2 z2 sb => ?_⟩
    have t2 : h2.get? s0.heap.objs.size = some { cls := .type "tuple", data := .seq #[x1, x2] } := (sb.2 _ (Nat.ne_of_gt zl)).trans g7
    have new : ObjOk X.prog X.w (upd H s0.heap.objs.size (.tup [x, y])) h2 s0.heap.objs.size (.tup [x, y]) :=
      ⟨by show 2 ≤ sizeLine; decide, [x1, x2], .cons ru (.cons rv' .nil), ⟨_, t2, rfl, _, rfl⟩⟩
    have I1 : Inv X pins σ (upd H s0.heap.objs.size (.tup [x, y])) { s0 with heap := h2, toks := tk } :=
      I.turnedNew (t' := tk) (ch := [z, TI, TO, i1, i2]) (fun c o hb t => (sb.2 c (fun t' => hb (by simp [t']))).trans (hk c o (fun t' => hb (by simp [t'])) (fun t' => hb (by simp [t'])) (fun t' => hb (by simp [t'])) (fun t' => hb (by simp [t'])) t)) hf (Nat.le_refl _) new
    refine ⟨.ref s0.heap.objs.size, _, I1, rfl, ⟨_, x, y, rfl, I.hok.fresh (Nat.le_refl _), rfl, fun l hl => by rw [I.list_inj hl hqx]; exact hx, fun l hl => by rw [I.tuple_inj hl hqy]; exact hy⟩, ⟨z2, ?_, ⟨x1, x2, ?_⟩, ?_, ?_⟩, fun c hcm => ?_⟩
    · exact (sb.2 _ D.TIz).trans (hk _ _ D.TIz D.TITO D.TIi1 D.TIi2 q2)
    · exact (sb.2 _ D.TOz).trans g4
    · exact g5.1.at fun o t => (sb.2 _ D.i1z).trans t
    · exact g6.1.at fun o t => (sb.2 _ D.i2z).trans t
    · have hlt : c < s0.heap.objs.size := by
        simp only [List.mem_cons, List.not_mem_nil, or_false] at hcm
        rcases hcm with rfl | rfl | rfl | rfl | rfl
        · exact zl
        · exact Heap.lt_size q2
        · exact Heap.lt_size q3
        · obtain ⟨_, t, _⟩ := q4; exact Heap.lt_size t
        · obtain ⟨_, t, _⟩ := q5; exact Heap.lt_size t
      rw [upd_ne (Nat.ne_of_lt hlt)]
      exact (hf c hcm).1
  done := by
    intro X hP hw hK hc i pins s0 σ H E I hf q hg
    subst hP hw hK
    obtain ⟨q1, q2, ⟨x0, y0, q3⟩, q4, q5⟩ := q
    obtain ⟨xs, ys, hqx, hqy, hend⟩ := hg
    obtain ⟨us, rv, p, _⟩ := I.list hqx
    obtain ⟨vs, rv2, p2, _⟩ := I.tuple hqy
    have l1 := rv.length
    have l2 := rv2.length
    have hA : X.A.in1.handled = none := I.ok.hd hc
    refine wpAny_pyNext_zipD2_end (i := i) (sep_of D) (Draws.list hA i1 a D.l1i1 us.toArray) (draws_tup hA i2 b D.l2i2 vs.toArray) q1 q2 q3 ⟨q4, p.isList⟩ ⟨q5, p2⟩ ?_ ?_ ?_ fun h1 tk hk => ⟨rfl, ?_⟩
    · simp only [List.size_toArray]; omega
    · simp only [List.size_toArray]; omega
    · simp only [List.size_toArray]; omega
    · exact I.turnedL (t' := tk) (ch := [z, TI, TO, i1, i2]) (fun c o hb t => hk c o (fun t' => hb (by simp [t'])) (fun t' => hb (by simp [t'])) (fun t' => hb (by simp [t'])) (fun t' => hb (by simp [t'])) t) hf
  self := fun A i s0 Q E q h => wpAny_pyIter_zip q.1 h
def iZipM (K : PySem.W.Frag) (ta : TA) : TI := fun σ H R => ta σ H fun vs H1 => ∃ a b xs ys, vs = [.ref a, .ref b] ∧ SqL K H1 a xs ∧ SqT K H1 b ys ∧ R (ItzM K a b) H1
theorem pi_zipM {X : Cx} {K : PySem.W.Frag} {e e2 : Expr} {ta : TA} {p pos tpos : Pos} {elts : List Expr} {kk : Nat} (hg : Gl X "zip") (hm : X.mg "zip" = none) (ha : PA X [e, e2] ta) (hK : X.K = K := by rfl)
    (h1 : starEach [e, e2] X.env = (false, eval e X.env) :: starEach [e2] X.env := by rfl) (h2 : (backTo pos (starEach [e2] X.env)).any (·.1) = false := by rfl) :
    PI X (.Tuple elts kk tpos) (.Call (.Name "zip" p) [e, e2] [] pos) (iZipM K ta) := by
  subst hK
  refine ⟨fun pins z0 σ H R I h => ?_⟩
  refine Call_ (ld_blt I hg hm PyProof.Rows.boot_zip (PyProof.Rows.callWith_type1 (thn (ha.run pos pins z0 σ H _ I h) fun us z1 ⟨vs, H1, I1, r1, q1⟩ => ?_) h1 h2))
  obtain ⟨a, b, xs, ys, rfl, hqx, hqy, q⟩ := q1
  obtain ⟨u1, u2, rfl, r1', r2'⟩ := vals2 r1
  cases r1'
  cases r2'
  obtain ⟨its, rv, p1, _⟩ := I1.list hqx
  obtain ⟨its2, rv2, p2, _⟩ := I1.tuple hqy
  obtain ⟨o2, ho2, _⟩ := id p2
  refine call_mz p1.isList (show z1.heap.IsTuple b its2.toArray from p2) fun h' g1 g2 g3 g4 g5 g6 hk => wpAny_pyIter_zip g1 ?_
  have I2 : Inv X pins σ H1 { z1 with heap := h' } := I1.kept (t' := z1.toks) hk
  refine ⟨z1.heap.objs.size + 4, [z1.heap.objs.size + 4, z1.heap.objs.size + 2, z1.heap.objs.size + 3, z1.heap.objs.size, z1.heap.objs.size + 1], _, _, H1, rfl, I2, turn_mz (PySem.W.ktu_apart z1.heap.objs.size a b p1.lt (Heap.lt_size ho2)), ⟨g1, g2, ⟨_, _, g3⟩, g4, g5⟩, fun c hc => ?_, q⟩
  have hle : z1.heap.objs.size ≤ c := by
    simp only [List.mem_cons, List.not_mem_nil, or_false] at hc
    rcases hc with rfl | rfl | rfl | rfl | rfl
    · exact Nat.le_add_right _ _
    · exact Nat.le_add_right _ _
    · exact Nat.le_add_right _ _
    · exact Nat.le_refl _
    · exact Nat.le_add_right _ _
  exact I1.fpOk hle (I1.hok.fresh hle)
theorem walk_mz {K : PySem.W.Frag} {a b : Addr} {xs ys : List V} (hl : xs.length = ys.length) : Walk (ItzM K a b) xs.length (fun H => SqL K H a xs ∧ SqT K H b ys) (YPair (fun i => xs[i]?) (fun i => ys[i]?)) := by
  refine ⟨fun i _ hi q => ?_, fun _ q => ⟨xs, ys, q.1, q.2, .inl ⟨rfl, by omega⟩⟩, fun i H v H' _ q y => ?_⟩
  · have h2 : i < ys.length := by omega
    exact ⟨xs, ys, xs[i], ys[i], q.1, q.2, by simp [hi], by simp [h2]⟩
  · obtain ⟨T, x, y', h1, h2, h3, h4, h5⟩ := y
    exact ⟨T, x, y', h1, h2, h3, h4 _ q.1, h5 _ q.2⟩
end Wd

set_option Elab.async false
set_option linter.all false
set_option maxRecDepth 100000
set_option maxHeartbeats 4000000
/-! dict(zip(a list, a tuple)). -/
namespace Wd
open PySem PySem.Spec PyProof.Rows L2 RZ Builtin
section
variable {prog : Program} {w : World} {A : Around} {E : Value → Shared → Prop} {z0 : Shared} {z TI TO T i1 i2 : Addr} {fp1 fp2 : List Addr} {f : Bool} {oT : Obj} {n1 n2 i : Nat} {P1 P2 : Nat → Value → Prop} {St1 St2 : Nat → Heap → Prop}
/-- the next pair, while the one ahead is still held -/
theorem held_item {Q : Value → Shared → Prop} (S : ZipSep2 z TI TO i1 i2 fp1 fp2) (D1 : Draws prog w A i1 fp1 n1 P1 St1) (D2 : Draws prog w A i2 fp2 n2 P2 St2)
    (hz : IsZipHeld z0.heap z TI TO T f) (hT : z0.heap.get? T = some oT) (hTI : IsPair z0.heap TI (.ref i1) (.ref i2)) (q1 : St1 i z0.heap) (q2 : St2 i z0.heap) (lt1 : i < n1) (lt2 : i < n2)
    (q : ∀ x1 x2 h' tk, P1 i x1 → P2 i x2 → IsZipHeld h' z TI TO T true → St1 (i + 1) h' → St2 (i + 1) h' → IsPair h' z0.heap.objs.size x1 x2 → h'.objs.size = z0.heap.objs.size + 1 →
      (∀ c o, c ≠ z → c ≠ i1 → c ≠ i2 → z0.heap.get? c = some o → h'.get? c = some o) → Q (.ref z0.heap.objs.size) { z0 with heap := h', toks := tk }) :
    wpAny (model prog w) A (Builtin.«zip.__next__» ⟨[.ref z], []⟩) (fun fin z1 => ∃ v, fin = .done (.ret v) ∧ Q v z1) E z0 := by
  obtain ⟨hp, gn, df, tk0, os⟩ := z0
  show wpAny _ _ (field (.ref z) 2 >>= _) _ _ _
  refine wpAny_bind (wpAny_field hz rfl (x := Value.bool false) rfl ?_)
  show wpAny _ _ (field (.ref z) 3 >>= _) _ _ _
  refine wpAny_bind (wpAny_field hz rfl (x := Value.ref TI) rfl ?_)
  refine wpAny_bind (wpAny_seqItems hTI rfl ?_)
  show wpAny _ _ (SmallTypes.ownedTupleIsFree (.ref z) >>= _) _ _ _
  refine wpAny_bind (wpAny_tupleHeld_zip hz hT fun k1 hz1 b1 => ?_)
  replace b1 : Heap.SameBut z hp k1 := b1
  simp only [Bool.false_eq_true, if_false]
  refine wpAny_bind ?_
  rw [← Array.forIn_toList]
  simp only [List.forIn_cons, List.forIn_nil]
  refine wpAny_bind (wpAny_bind (wpAny_holding ?_))
  show wpAny _ _ (SmallTypes.nextOf (.ref i1) >>= _) _ _ _
  refine wpAny_bind (D1.item i ⟨k1, gn, df, tk0, os⟩ _ _ lt1 (D1.over q1 b1 S.zf1) fun x1 k2 t2 p1 q1' b2 => wpAny_pure (wpAny_pure ?_))
  replace b2 : Heap.SameBut i1 k1 k2 := b2
  refine wpAny_bind (wpAny_bind (wpAny_holding ?_))
  show wpAny _ _ (SmallTypes.nextOf (.ref i2) >>= _) _ _ _
  refine wpAny_bind (D2.item i ⟨k2, gn, df, t2, os⟩ _ _ lt2 (D2.over (D2.over q2 b1 S.zf2) b2 S.sep1_2) fun x2 k3 t3 p2 q2' b3 => wpAny_pure (wpAny_pure (wpAny_pure ?_)))
  replace b3 : Heap.SameBut i2 k2 k3 := b3
  show wpAny _ _ (newTuple [x1, x2] >>= _) _ _ ⟨k3, gn, df, t3, os⟩
  refine wpAny_bind (wpAny_newTuple ?_)
  have sz : k3.objs.size = hp.objs.size := by rw [b3.1, b2.1, b1.1]
  have hz3 : IsZipHeld k3 z TI TO T true := b3.extBut _ _ S.zi2 (b2.extBut _ _ S.zi1 hz1)
  have up : ∀ c o, c ≠ z → c ≠ i1 → c ≠ i2 → hp.get? c = some o → k3.get? c = some o := fun c o c1 c2 c3 e => b3.extBut _ _ c3 (b2.extBut _ _ c2 (b1.extBut _ _ c1 e))
  have q13 : St1 (i + 1) k3 := D1.over q1' b3 S.sep2_1
  refine wpAny_pure ⟨_, rfl, ?_⟩
  show Q (.ref k3.objs.size) _
  have hp4 : IsPair (k3.push { cls := .type "tuple", data := .seq #[x1, x2] }) k3.objs.size x1 x2 := Heap.get?_push_size _ rfl
  have sz4 : (k3.push { cls := .type "tuple", data := .seq #[x1, x2] }).objs.size = k3.objs.size + 1 := Heap.size_push ..
  have k4 : ∀ c o, k3.get? c = some o → (k3.push { cls := .type "tuple", data := .seq #[x1, x2] }).get? c = some o := fun c o e => Heap.get?_push_of_some _ e
  rw [sz] at hp4 sz4 ⊢
  exact q x1 x2 _ t3 p1 p2 (k4 _ _ hz3) (D1.frame _ _ _ q13 fun b _ o e => k4 _ _ e) (D2.frame _ _ _ q2' fun b _ o e => k4 _ _ e) hp4 sz4 fun c o c1 c2 c3 e => k4 _ _ (up c o c1 c2 c3 e)
theorem held_end {Q : Fin → Shared → Prop} (S : ZipSep2 z TI TO i1 i2 fp1 fp2) (D1 : Draws prog w A i1 fp1 n1 P1 St1) (D2 : Draws prog w A i2 fp2 n2 P2 St2)
    (hz : IsZipHeld z0.heap z TI TO T f) (hT : z0.heap.get? T = some oT) (hTI : IsPair z0.heap TI (.ref i1) (.ref i2)) (q1 : St1 i z0.heap) (q2 : St2 i z0.heap) (le1 : i ≤ n1) (le2 : i ≤ n2) (hend : i = n1 ∨ i = n2)
    (g : ∀ h' tk e, (∀ c o, c ≠ z → c ≠ i1 → c ≠ i2 → z0.heap.get? c = some o → h'.get? c = some o) → (∃ o, h'.get? e = some o ∧ o.cls = .type "StopIteration") → E (.ref e) { z0 with heap := h', toks := tk }) :
    wpAny (model prog w) A (Builtin.«zip.__next__» ⟨[.ref z], []⟩) Q E z0 := by
  obtain ⟨hp, gn, df, tk0, os⟩ := z0
  show wpAny _ _ (field (.ref z) 2 >>= _) _ _ _
  refine wpAny_bind (wpAny_field hz rfl (x := Value.bool false) rfl ?_)
  show wpAny _ _ (field (.ref z) 3 >>= _) _ _ _
  refine wpAny_bind (wpAny_field hz rfl (x := Value.ref TI) rfl ?_)
  refine wpAny_bind (wpAny_seqItems hTI rfl ?_)
  show wpAny _ _ (SmallTypes.ownedTupleIsFree (.ref z) >>= _) _ _ _
  refine wpAny_bind (wpAny_tupleHeld_zip hz hT fun k1 hz1 b1 => ?_)
  replace b1 : Heap.SameBut z hp k1 := b1
  simp only [Bool.false_eq_true, if_false]
  refine wpAny_bind ?_
  rw [← Array.forIn_toList]
  simp only [List.forIn_cons, List.forIn_nil]
  refine wpAny_bind (wpAny_bind (wpAny_holding ?_))
  show wpAny _ _ (SmallTypes.nextOf (.ref i1) >>= _) _ _ _
  by_cases lt1 : i < n1
  · have e2 : i = n2 := by omega
    refine wpAny_bind (D1.item i ⟨k1, gn, df, tk0, os⟩ _ _ lt1 (D1.over q1 b1 S.zf1) fun x1 k2 t2 p1 q1' b2 => wpAny_pure (wpAny_pure ?_))
    replace b2 : Heap.SameBut i1 k1 k2 := b2
    refine wpAny_bind (wpAny_bind (wpAny_holding ?_))
    show wpAny _ _ (SmallTypes.nextOf (.ref i2) >>= _) _ _ _
    refine wpAny_bind (D2.done ⟨k2, gn, df, t2, os⟩ _ _ (by rw [← e2]; exact D2.over (D2.over q2 b1 S.zf2) b2 S.sep1_2) fun k3 e b3 he => ?_)
    replace b3 : Heap.ExtBut i2 k2 k3 := b3
    exact g k3 t2 e (fun c o c1 c2 c3 t => b3 _ _ c3 (b2.extBut _ _ c2 (b1.extBut _ _ c1 t))) he
  · have e1 : i = n1 := by omega
    refine wpAny_bind (D1.done ⟨k1, gn, df, tk0, os⟩ _ _ (by rw [← e1]; exact D1.over q1 b1 S.zf1) fun k2 e b2 he => ?_)
    replace b2 : Heap.ExtBut i1 k1 k2 := b2
    exact g k2 tk0 e (fun c o c1 c2 _ t => b2 _ _ c2 (b1.extBut _ _ c1 t)) he
theorem next_held_item {Q : Option Value → Shared → Prop} (S : ZipSep2 z TI TO i1 i2 fp1 fp2) (D1 : Draws prog w A.in1 i1 fp1 n1 P1 St1) (D2 : Draws prog w A.in1 i2 fp2 n2 P2 St2)
    (hz : IsZipHeld z0.heap z TI TO T f) (hT : z0.heap.get? T = some oT) (hTI : IsPair z0.heap TI (.ref i1) (.ref i2)) (q1 : St1 i z0.heap) (q2 : St2 i z0.heap) (lt1 : i < n1) (lt2 : i < n2)
    (q : ∀ x1 x2 h' tk, P1 i x1 → P2 i x2 → IsZipHeld h' z TI TO T true → St1 (i + 1) h' → St2 (i + 1) h' → IsPair h' z0.heap.objs.size x1 x2 → h'.objs.size = z0.heap.objs.size + 1 →
      (∀ c o, c ≠ z → c ≠ i1 → c ≠ i2 → z0.heap.get? c = some o → h'.get? c = some o) → Q (some (.ref z0.heap.objs.size)) { z0 with heap := h', toks := tk }) :
    wpAny (model prog w) A (pyNext (.ref z)) Q E z0 := by
  have ty : z0.TypeIs (.ref z) "zip" := ⟨_, hz, rfl⟩
  unfold pyNext
  refine wpAny_bind (wpAny_attempt (wpAny_callSpecial?_slot (name := Str.ofString "__next__") ty F.slot_zip_next (wpAny_call_entry F.slot_zip_next ty F.entry_zip_next ?_ (F.args_zip_next_1 _))))
  exact held_item S D1 D2 hz hT hTI q1 q2 lt1 lt2 fun x1 x2 h' tk p1 p2 a1 a2 a3 a4 a5 a6 => wpAny_pure (q x1 x2 h' tk p1 p2 a1 a2 a3 a4 a5 a6)
theorem next_held_end {Q : Option Value → Shared → Prop} (S : ZipSep2 z TI TO i1 i2 fp1 fp2) (D1 : Draws prog w A.in1 i1 fp1 n1 P1 St1) (D2 : Draws prog w A.in1 i2 fp2 n2 P2 St2)
    (hz : IsZipHeld z0.heap z TI TO T f) (hT : z0.heap.get? T = some oT) (hTI : IsPair z0.heap TI (.ref i1) (.ref i2)) (q1 : St1 i z0.heap) (q2 : St2 i z0.heap) (le1 : i ≤ n1) (le2 : i ≤ n2) (hend : i = n1 ∨ i = n2)
    (q : ∀ h' tk, (∀ c o, c ≠ z → c ≠ i1 → c ≠ i2 → z0.heap.get? c = some o → h'.get? c = some o) → Q none { z0 with heap := h', toks := tk }) :
    wpAny (model prog w) A (pyNext (.ref z)) Q E z0 := by
  have ty : z0.TypeIs (.ref z) "zip" := ⟨_, hz, rfl⟩
  unfold pyNext
  refine wpAny_bind (wpAny_attempt (wpAny_callSpecial?_slot (name := Str.ofString "__next__") ty F.slot_zip_next (wpAny_call_entry F.slot_zip_next ty F.entry_zip_next ?_ (F.args_zip_next_1 _))))
  refine held_end S D1 D2 hz hT hTI q1 q2 le1 le2 hend fun h' tk e hk he => ?_
  obtain ⟨o, ho, hc⟩ := he
  exact wpAny_bind (wpAny_isInstance (T := "StopIteration") (b := true) ⟨o, ho, hc⟩ isSubtype_stop (wpAny_pure (q _ _ hk)))
end
section
variable {prog : Program} {w : World}
theorem pairs_mz (z TI TO i1 i2 a b : Addr) (D : ZipApart z TI TO i1 i2 a b) (xs ys : Array Value) (hl : xs.size = ys.size) :
    PairArg prog w "zip" z [z, TI, TO, i1, i2, a, b] [z, TO, i1, i2] xs.size (fun i k v => xs[i]? = some k ∧ ys[i]? = some v)
      (fun h => IsZip h z TI TO .none ∧ IsPair h TI (.ref i1) (.ref i2) ∧ (∃ c d, IsPair h TO c d) ∧ h.IsListIter i1 a 0 ∧ h.IsTupleIter i2 b 0 ∧ h.IsList a xs ∧ h.IsTuple b ys) where
  type := fun s q => ⟨_, q.1, rfl⟩
  notDict := by decide
  keep := fun h h' q k => by
    obtain ⟨q1, q2, ⟨c, d, q3⟩, q4, q5, q6, q7⟩ := q
    exact ⟨k _ _ q1, k _ _ q2, ⟨c, d, k _ _ q3⟩, q4.at fun o e => k _ o e, q5.at fun o e => k _ o e, q6.at fun o e => k _ o e, q7.at fun o e => k _ o e⟩
  there := fun h q c hc => by
    obtain ⟨q1, q2, ⟨_, _, q3⟩, ⟨o4, q4, _⟩, ⟨o5, q5, _⟩, ⟨o6, q6, _⟩, ⟨o7, q7, _⟩⟩ := q
    simp only [List.mem_cons, List.not_mem_nil, or_false] at hc
    rcases hc with rfl | rfl | rfl | rfl | rfl | rfl | rfl
    · exact ⟨_, q1⟩
    · exact ⟨_, q2⟩
    · exact ⟨_, q3⟩
    · exact ⟨_, q4⟩
    · exact ⟨_, q5⟩
    · exact ⟨_, q6⟩
    · exact ⟨_, q7⟩
  sub := fun c hc => by
    simp only [List.mem_cons, List.not_mem_nil, or_false] at hc ⊢
    rcases hc with rfl | rfl | rfl | rfl <;> simp
  noKeys := fun A s Q E hA q h => PySem.getAttrOr_miss_zip q.1 rfl rfl rfl PySem.zip_no_keys (by decide +kernel) hA h
  iter := fun A s d Q E hA q hd hdf h => by
    obtain ⟨q1, q2, ⟨c0, d0, q3⟩, q4, q5, q6, q7⟩ := q
    simp only [List.mem_cons, List.not_mem_nil, or_false, not_or] at hdf
    obtain ⟨dz, dTI, dTO, di1, di2, da, db⟩ := hdf
    have S := sep_of D
    have hA1 : A.in1.handled = none := hA
    have D1 := Draws.list (prog := prog) (w := w) hA1 i1 a D.l1i1 xs
    have D2 := draws_tup (prog := prog) (w := w) hA1 i2 b D.l2i2 ys
    refine wpAny_pyIter_zip q1 (h z [z, TO, i1, i2] (fun i h => IsPair h TI (.ref i1) (.ref i2) ∧ (h.IsListIter i1 a i ∧ h.IsList a xs) ∧ (h.IsTupleIter i2 b i ∧ h.IsTuple b ys) ∧
      ((IsZip h z TI TO .none ∧ ∃ c d, IsPair h TO c d) ∨ ∃ T f oT, IsZipHeld h z TI TO T f ∧ h.get? T = some oT ∧ T ≠ z ∧ T ≠ i1 ∧ T ≠ i2 ∧ T ≠ d)) s.heap s.toks ?_
      ⟨q2, ⟨q4, q6⟩, ⟨q5, q7⟩, .inl ⟨q1, c0, d0, q3⟩⟩ (fun _ _ e => e) fun b hb => .inl hb)
    refine ⟨fun hm => ?_, fun i g1 g2 q k => ?_, fun i s1 Q1 E1 hi q hds hQ => ?_, fun s1 Q1 E1 q hQ => ?_⟩
    · simp only [List.mem_cons, List.not_mem_nil, or_false] at hm
      rcases hm with e | e | e | e
      · exact dz e
      · exact dTO e
      · exact di1 e
      · exact di2 e
    · obtain ⟨r1, r2, r3, r4⟩ := q
      refine ⟨k _ _ (Ne.symm dTI) r1, ⟨r2.1.at fun o e => k _ o (Ne.symm di1) e, r2.2.at fun o e => k _ o (Ne.symm da) e⟩, ⟨r3.1.at fun o e => k _ o (Ne.symm di2) e, r3.2.at fun o e => k _ o (Ne.symm db) e⟩, ?_⟩
      rcases r4 with ⟨r4, c, d1, r5⟩ | ⟨T, f, oT, r4, r5, t1, t2, t3, t4⟩
      · exact .inl ⟨k _ _ (Ne.symm dz) r4, c, d1, k _ _ (Ne.symm dTO) r5⟩
      · exact .inr ⟨T, f, oT, k _ _ (Ne.symm dz) r4, k _ _ t4 r5, t1, t2, t3, t4⟩
    · obtain ⟨r1, r2, r3, r4⟩ := q
      have lt : ∀ {c o}, s1.heap.get? c = some o → s1.heap.objs.size ≠ c := fun e => Nat.ne_of_gt (Heap.lt_size e)
      have m1 : s1.heap.objs.size ≠ i1 := let ⟨_, e, _⟩ := r2.1; lt e
      have m2 : s1.heap.objs.size ≠ i2 := let ⟨_, e, _⟩ := r3.1; lt e
      have hi2 : i < ys.size := by omega
      rcases r4 with ⟨r4, c, d1, r5⟩ | ⟨T, f, oT, r4, r5, t1, t2, t3, t4⟩
      · refine wpAny_pyNext_zipD2_item S D1 D2 r4 r1 r5 r2 r3 hi hi2 fun x1 x2 h' tk p1 p2 a1 a2 a3 a4 a5 a6 hk => ?_
        exact hQ s1.heap.objs.size x1 x2 h' tk ⟨p1, p2⟩ (.inl ⟨_, a5, rfl, _, rfl⟩)
          ⟨hk _ _ D.TIz D.TITO D.TIi1 D.TIi2 r1, a3, a4, .inr ⟨s1.heap.objs.size, false, _, a1, a5, lt r4, m1, m2, Nat.ne_of_gt hds⟩⟩
          fun c o hc e => hk c o (fun t => hc (by simp [t])) (fun t => hc (by simp [t])) (fun t => hc (by simp [t])) (fun t => hc (by simp [t])) e
      · refine next_held_item S D1 D2 r4 r5 r1 r2 r3 hi hi2 fun x1 x2 h' tk p1 p2 a1 a3 a4 a5 a6 hk => ?_
        exact hQ s1.heap.objs.size x1 x2 h' tk ⟨p1, p2⟩ (.inl ⟨_, a5, rfl, _, rfl⟩)
          ⟨hk _ _ D.TIz D.TIi1 D.TIi2 r1, a3, a4, .inr ⟨T, true, oT, a1, hk _ _ t1 t2 t3 r5, t1, t2, t3, t4⟩⟩
          fun c o hc e => hk c o (fun t => hc (by simp [t])) (fun t => hc (by simp [t])) (fun t => hc (by simp [t])) e
    · obtain ⟨r1, r2, r3, r4⟩ := q
      rcases r4 with ⟨r4, c, d1, r5⟩ | ⟨T, f, oT, r4, r5, t1, t2, t3, t4⟩
      · exact wpAny_pyNext_zipD2_end S D1 D2 r4 r1 r5 r2 r3 (Nat.le_refl _) (by omega) (.inl rfl) fun h' tk hk => hQ h' tk fun c o hc e => hk c o (fun t => hc (by simp [t])) (fun t => hc (by simp [t])) (fun t => hc (by simp [t])) (fun t => hc (by simp [t])) e
      · exact next_held_end S D1 D2 r4 r5 r1 r2 r3 (Nat.le_refl _) (by omega) (.inl rfl) fun h' tk hk => hQ h' tk fun c o hc e => hk c o (fun t => hc (by simp [t])) (fun t => hc (by simp [t])) (fun t => hc (by simp [t])) e
end
/-- dict(zip(xs, ys)): the keys a list, the values a tuple as long -/
def tDictZ (K : PySem.W.Frag) (ta : TA) : TE := fun σ H Q => ta σ H fun vs H1 => ∃ (a b : Addr) (ks : List Key) (ys : List V), vs = [.ref a, .ref b] ∧ SqL K H1 a (ks.map kV) ∧ SqT K H1 b ys ∧ ks.length = ys.length ∧ ∀ p, H1 p = none → Q (.ref p) (upd H1 p (.dK (mergeK [] (ks.zip ys))))
theorem kv_zip : ∀ {ks : List Key} {ys : List V} {vs : List Value}, Vals ys vs → ks.length = ys.length → KV (ks.zip ys) (ks.zip vs)
  | [], _, _, _, _ => .nil
  | k :: ks, _, _, .cons h r, e => .cons ⟨rfl, h⟩ (kv_zip r (by simpa using e))
theorem pe_dictZ {X : Cx} {K : PySem.W.Frag} {e e2 : Expr} {ta : TA} {p p2 pos pos2 : Pos} (hc : X.calm = true) (hg : Gl X "dict") (hm : X.mg "dict" = none) (hg2 : Gl X "zip") (hm2 : X.mg "zip" = none) (ha : PA X [e, e2] ta) (hK : X.K = K := by rfl)
    (h1 : starEach [e, e2] X.env = (false, eval e X.env) :: starEach [e2] X.env := by rfl) (h2 : (backTo pos2 (starEach [e2] X.env)).any (·.1) = false := by rfl)
    (h3 : starEach [.Call (.Name "zip" p2) [e, e2] [] pos2] X.env = (false, eval (.Call (.Name "zip" p2) [e, e2] [] pos2) X.env) :: starEach [] X.env := by rfl) :
    PE X (.Call (.Name "dict" p) [.Call (.Name "zip" p2) [e, e2] [] pos2] [] pos) (tDictZ K ta) := by
  subst hK
  refine ⟨fun pins z0 σ H Q I h => ?_⟩
  refine Call_ (ld_blt I hg hm bt_dict (PyProof.Rows.callWith_type1 (args_cons ?_ h3) h3))
  refine Call_ (ld_blt I hg2 hm2 PyProof.Rows.boot_zip (PyProof.Rows.callWith_type1 (thn (ha.run pos2 pins z0 σ H _ I h) fun us z1 ⟨vs, H1, I1, r1, q1⟩ => ?_) h1 h2))
  obtain ⟨a, b, ks, ys, rfl, hqx, hqy, hlen, q⟩ := q1
  obtain ⟨u1, u2, rfl, r1', r2'⟩ := vals2 r1
  cases r1'
  cases r2'
  obtain ⟨its, rv, p1, hz1⟩ := I1.list hqx
  obtain ⟨its2, rv2, p2, _⟩ := I1.tuple hqy
  obtain ⟨o2, ho2, _⟩ := id p2
  have l1 : its.length = ks.length := by rw [← rv.length, List.length_map]
  have l2 : its2.length = ys.length := rv2.length.symm
  refine call_mz p1.isList (show z1.heap.IsTuple b its2.toArray from p2) fun h' g1 g2 g3 g4 g5 g6 hk => args_nil ?_
  have I2 : Inv X pins σ H1 { z1 with heap := h' } := I1.kept (t' := z1.toks) hk
  have D := PySem.W.ktu_apart z1.heap.objs.size a b p1.lt (Heap.lt_size ho2)
  have hz : ks.length ≤ sizeLine := by rw [List.length_map] at hz1; exact hz1
  refine call_dict_pairs (knd := mixKind X.prog X.w) (kvs := ks.zip its2) (pairs_mz _ _ _ _ _ a b D its.toArray its2.toArray (by simp; omega)) (I2.ok.hd hc) ⟨g1, g2, ⟨_, _, g3⟩, g4, g5, p1.isList.at fun o t => hk _ _ t, (show z1.heap.IsTuple b its2.toArray from p2).at fun o t => hk _ _ t⟩ ⟨by
    rw [List.length_zip]; simp; omega, fun i key v hr => ?_⟩ (by simp; omega) fun h2 tk hd' k2 => ?_
  · obtain ⟨t1, t2⟩ := hr
    have t1' : its[i]? = some key := by simpa using t1
    have t2' : its2[i]? = some v := by simpa using t2
    have hi : i < ks.length := by rw [← l1]; exact (List.getElem?_eq_some_iff.mp t1').1
    refine ⟨ks[i], ?_, ?_⟩
    · rw [List.getElem?_zip_eq_some]
      exact ⟨List.getElem?_eq_getElem hi, t2'⟩
    · obtain ⟨u, hu, ru⟩ := rv.get (i := i) (x := kV ks[i]) (by rw [List.getElem?_map, List.getElem?_eq_getElem hi]; rfl)
      rw [t1'] at hu
      cases hu
      exact kV_is (P := X.prog) (w := X.w) ru
  · have hbig : (h'.objs.size == sysModules) = false := beq_eq_false_iff_ne.mpr (Nat.ne_of_gt I2.big)
    have hlen2 : (mergeK [] (ks.zip ys)).length ≤ sizeLine := by
      refine Nat.le_trans (length_mergeK _ []) ?_
      rw [List.length_nil, Nat.zero_add, List.length_zip]
      omega
    have fresh : ∀ c o, z1.heap.get? c = some o → h2.get? c = some o := fun c o t => k2 c o (fun hm => by
      have hlt := Heap.lt_size t
      simp only [List.mem_cons, List.not_mem_nil, or_false] at hm
      rcases hm with rfl | rfl | rfl | rfl
      · exact absurd hlt (Nat.not_lt_of_le (Nat.le_add_right _ _))
      · exact absurd hlt (Nat.not_lt_of_le (Nat.le_add_right _ _))
      · exact absurd hlt (Nat.lt_irrefl _)
      · exact absurd hlt (Nat.not_lt_of_le (Nat.le_add_right _ _))) (hk c o t)
    have hle : z1.heap.objs.size ≤ h'.objs.size := by rw [g6]; exact Nat.le_add_right _ _
    refine ⟨.ref h'.objs.size, upd H1 h'.objs.size (.dK (mergeK [] (ks.zip ys))), ?_, rfl, q _ (I1.hok.fresh hle)⟩
    exact I1.laid (t' := tk) fresh hle (show ObjOk X.prog X.w _ _ _ (.dK (mergeK [] (ks.zip ys))) from ⟨hlen2, hbig, merged [] (ks.zip its2), KV.merge (kv_zip rv2 hlen) .nil, hd'⟩)
end Wd

set_option Elab.async false
set_option linter.all false
set_option maxRecDepth 100000
set_option maxHeartbeats 4000000
/-! What rooms bear, as plain data. -/
namespace Wd
open PySem PySem.Spec PyProof.Rows L2
def intsKv (rooms : List Str) (g : Str → Int) : List (Key × V) := rooms.map fun r => (.inr r, .int (g r))
theorem intsKv_keys (rooms : List Str) (g : Str → Int) : (intsKv rooms g).map (·.1) = rooms.map Sum.inr := by
  unfold intsKv
  rw [List.map_map]
  rfl
theorem intsKv_at {g : Str → Int} {r : Str} : ∀ {rooms : List Str}, r ∈ rooms → valV (intsKv rooms g) (.inr r) = some (.int (g r))
  | x :: rooms, h => by
    by_cases e : x = r
    · rw [e]
      exact valV_pos rfl
    · have e' : ¬ ((Sum.inr x : Key) = .inr r) := fun z => e (Sum.inr.inj z)
      rw [show intsKv (x :: rooms) g = (.inr x, .int (g x)) :: intsKv rooms g from rfl, valV_neg e']
      rcases List.mem_cons.mp h with z | z
      · exact absurd z.symm e
      · exact intsKv_at z
theorem intsKv_ext {rooms : List Str} {f g : Str → Int} (h : ∀ r ∈ rooms, f r = g r) : intsKv rooms f = intsKv rooms g := by
  unfold intsKv
  exact List.map_congr_left fun r hr => by rw [h r hr]
theorem intsKv_put {g : Str → Int} {r : Str} {v : Int} {rooms : List Str} (h : r ∈ rooms) : putK (intsKv rooms g) (.inr r) (.int v) = intsKv rooms fun q => if q = r then v else g q := by
  unfold putK
  have ha : (intsKv rooms g).any (fun kv => decide (kv.1 = (.inr r : Key))) = true := by
    rw [List.any_eq_true]
    exact ⟨(.inr r, .int (g r)), List.mem_map.mpr ⟨r, h, rfl⟩, by simp⟩
  rw [if_pos ha]
  unfold intsKv
  rw [List.map_map]
  refine List.map_congr_left fun q _ => ?_
  by_cases e : q = r
  · subst e
    simp
  · have : ¬ ((Sum.inr q : Key) = .inr r) := fun z => e (Sum.inr.inj z)
    simp [e, this]
theorem mergeK_new : ∀ {more acc : List (Key × V)}, ((acc ++ more).map (·.1)).Nodup → mergeK acc more = acc ++ more
  | [], acc, _ => by rw [List.append_nil]; rfl
  | x :: more, acc, n => by
    have hf : valV acc x.1 = none := valV_off fun m => by
      rw [List.map_append, List.map_cons] at n
      exact (List.nodup_append.mp n).2.2 _ m _ List.mem_cons_self rfl
    show mergeK (putK acc x.1 x.2) more = _
    rw [putK_new _ hf, mergeK_new (by rw [List.append_assoc]; exact n), List.append_assoc]
    rfl
def addAt (g : Str → Int) (r : Str) (h : Int) : Str → Int := fun q => if q = r then g r + h else g q
def whereKv (x : HallH) (rs : List Str) : List (Key × V) := (x.walkers.zip rs).map fun z => (.inr z.1.name, .str z.2)
def whereL : List (WalkH × Str) → Str → Option Str
  | [], _ => none
  | z :: r, q => if z.1.name = q then some z.2 else whereL r q
def whereH (x : HallH) (rs : List Str) (q : Str) : Str := (whereL (x.walkers.zip rs) q).getD q
theorem whereL_val {q : Str} : ∀ {zs : List (WalkH × Str)}, valV (zs.map fun z => ((.inr z.1.name : Key), V.str z.2)) (.inr q) = (whereL zs q).map V.str
  | [] => rfl
  | z :: r => by
    rw [List.map_cons]
    unfold whereL
    by_cases e : z.1.name = q
    · rw [if_pos e, e]
      exact valV_pos rfl
    · rw [if_neg e, valV_neg fun w => e (Sum.inr.inj w)]
      exact whereL_val
theorem where_val {x : HallH} {rs : List Str} {q : Str} : (valV (whereKv x rs) (.inr q)).getD (.str q) = .str (whereH x rs q) := by
  unfold whereKv whereH
  rw [whereL_val]
  cases whereL (x.walkers.zip rs) q <;> rfl
theorem whereL_in {q r : Str} : ∀ {zs : List (WalkH × Str)}, whereL zs q = some r → ∃ z ∈ zs, z.2 = r
  | z :: zs, h => by
    unfold whereL at h
    split at h
    · exact ⟨z, List.mem_cons_self, Option.some.inj h⟩
    · obtain ⟨y, hy, e⟩ := whereL_in h
      exact ⟨y, List.mem_cons_of_mem _ hy, e⟩
theorem whereL_none {q : Str} : ∀ {zs : List (WalkH × Str)}, whereL zs q = none → ∀ z ∈ zs, z.1.name ≠ q
  | z :: zs, h, y, hy => by
    unfold whereL at h
    split at h
    · cases h
    · rename_i e
      rcases List.mem_cons.mp hy with rfl | hy
      · exact e
      · exact whereL_none h y hy
theorem whereL_at {q : Str} {z : WalkH × Str} : ∀ {zs : List (WalkH × Str)}, (zs.map fun z => z.1.name).Nodup → z ∈ zs → whereL zs z.1.name = some z.2
  | y :: zs, n, h => by
    rw [List.map_cons] at n
    obtain ⟨n1, n2⟩ := List.nodup_cons.mp n
    unfold whereL
    rcases List.mem_cons.mp h with rfl | h
    · rw [if_pos rfl]
    · rw [if_neg fun e => n1 (by rw [e]; exact List.mem_map.mpr ⟨z, h, rfl⟩)]
      exact whereL_at (q := q) n2 h
theorem where_in {x : HallH} {t : Nat} {rs ps : List Str} (s : StandH x t rs ps) {q : Str} (h : q ∈ ps) : whereH x rs q ∈ x.rooms := by
  unfold whereH
  cases e : whereL (x.walkers.zip rs) q with
  | some r =>
    obtain ⟨z, hz, rfl⟩ := whereL_in e
    exact s.rin _ (List.of_mem_zip (a := z.1) (b := z.2) hz).2
  | none =>
    rcases s.pin q h with g | g
    · exact g
    · exfalso
      obtain ⟨w, hw, rfl⟩ := List.mem_map.mp g
      obtain ⟨i, hi, rfl⟩ := List.getElem_of_mem hw
      have hi2 : i < rs.length := by rw [s.rl]; exact hi
      have : (x.walkers[i], rs[i]) ∈ x.walkers.zip rs := by
        have e2 : (x.walkers.zip rs)[i]'(by rw [List.length_zip]; omega) = (x.walkers[i], rs[i]) := by rw [List.getElem_zip]
        rw [← e2]
        exact List.getElem_mem _
      exact whereL_none e _ this rfl
def folkW (a : Option Str) (zs : List (WalkH × Str)) (g : Str → Int) : Str → Int := zs.foldl (fun g z => if some z.1.name = a then g else addAt g z.2 z.1.heft) g
def stonesW (a : Option Str) (wh : Str → Str) (zs : List ((Str × Int) × Str)) (g : Str → Int) : Str → Int := zs.foldl (fun g z => if some z.2 = a then g else addAt g (wh z.2) z.1.2) g
def borneH (x : HallH) (rs ps : List Str) (a : Option Str) : Str → Int := stonesW a (whereH x rs) (x.stones.zip ps) (folkW a (x.walkers.zip rs) fun _ => 0)
theorem folkW_snoc (a : Option Str) (zs : List (WalkH × Str)) (z : WalkH × Str) (g : Str → Int) : folkW a (zs ++ [z]) g = if some z.1.name = a then folkW a zs g else addAt (folkW a zs g) z.2 z.1.heft := by
  unfold folkW
  rw [List.foldl_append]
  rfl
theorem stonesW_snoc (a : Option Str) (wh : Str → Str) (zs : List ((Str × Int) × Str)) (z : (Str × Int) × Str) (g : Str → Int) : stonesW a wh (zs ++ [z]) g = if some z.2 = a then stonesW a wh zs g else addAt (stonesW a wh zs g) (wh z.2) z.1.2 := by
  unfold stonesW
  rw [List.foldl_append]
  rfl
def optS (a : Option Str) : V := a.elim .non .str
theorem ne_opt {K : PySem.W.Frag} {H : Hp} {z : Str} {a : Option Str} {Q : VK} (q : Q (.bl (!decide (some z = a))) H) : rNeX K (.str z) (optS a) H Q := by
  cases a with
  | none =>
    refine .inl ⟨rfl, ?_⟩
    have e : decide (V.str z = optS none) = decide (some z = none) := by
      rw [decide_eq_false (by intro q; cases q), decide_eq_false (by intro q; cases q)]
    rw [e]
    exact q
  | some b =>
    refine .inl ⟨rfl, ?_⟩
    have e : decide (V.str z = optS (some b)) = decide (some z = some b) := by
      refine decide_eq_decide.mpr ⟨fun q => ?_, fun q => ?_⟩
      · injection q with q
        rw [q]
      · injection q with q
        rw [q]
        rfl
    rw [e]
    exact q
end Wd

set_option Elab.async false
set_option linter.all false
set_option maxRecDepth 100000
set_option maxHeartbeats 4000000
/-! Deeds as plain data. -/
namespace Wd
open PySem PySem.Spec PyProof.Rows L2
def metI (b : Int) (r : RowH) : Bool := decide (r.least ≤ b) && (match r.most with | none => true | some m => decide (b ≤ m))
def metB (g : Str → Int) (r : RowH) : Bool := metI (g r.room) r
def openB (g : Str → Int) (d : DoorH) : Bool := d.rows.all (metB g)
def farH (d : DoorH) (r : Str) : Option Str := if r = d.one then some d.other else if r = d.other ∧ d.way = "both" then some d.one else none
def goL (x : HallH) (g : Str → Int) (room : Str) : List Str := (x.doors.filter fun d => openB g d && (farH d room).isSome).map DoorH.name
def placedL (zs : List ((Str × Int) × Str)) (q : Str) : List Str := (zs.filter fun z => decide (z.2 = q)).map fun z => z.1.1
def deedD (z : List Str) : PyData := .tuple (z.map PyData.str)
def deedsOf (go lay lift : List Str) : List (List Str) := go.map (fun d => [(Str.ofString "go" : Str), d]) ++ lay.map (fun s => [(Str.ofString "lay" : Str), s]) ++ lift.map (fun s => [(Str.ofString "lift" : Str), s]) ++ [[(Str.ofString "wait" : Str)]]
theorem row_inv3 {N : Addr → Prop} {K : PySem.W.Frag} {H : Hp} {v : V} {r : RowH} (h : Dq N K H v r.data) : ∃ t : Addr, v = .ref t ∧ SqT K H t [.str r.room, .int r.least, optV r.most] := by
  cases h with
  | tup n e q =>
    cases q with
    | cons q1 q =>
      cases q with
      | cons q2 q =>
        cases q with
        | cons q3 q =>
          cases q
          cases q1
          cases q2
          refine ⟨_, rfl, ?_⟩
          cases hm : r.most with
          | none => rw [hm] at q3; cases q3; exact e
          | some m => rw [hm] at q3; cases q3; exact e
theorem leads_far (d : DoorH) (h : d.one ≠ d.other) (r : Str) : leadsOf1 d r = (farH d r).elim [] fun b => [(d.name, b)] := by
  unfold leadsOf1 farH
  by_cases c1 : r = d.one
  · have c2 : ¬ (d.way = "both" ∧ r = d.other) := fun z => h (c1.symm.trans z.2)
    rw [if_pos c1, if_pos c1, if_neg c2]
    rfl
  · by_cases c2 : d.way = "both" ∧ r = d.other
    · rw [if_neg c1, if_neg c1, if_pos c2, if_pos ⟨c2.2, c2.1⟩]
      rfl
    · rw [if_neg c1, if_neg c1, if_neg c2, if_neg fun z => c2 ⟨z.2, z.1⟩]
      rfl
/-- the doors that lead from a room and stand open -/
theorem leads_go {g : Str → Int} {p : Str → Bool} {r : Str} : ∀ {ds : List DoorH}, (∀ d ∈ ds, d.one ≠ d.other) → (∀ d ∈ ds, p d.name = openB g d) → ((leadsH ds r).filter fun z => p z.1).map Prod.fst = (ds.filter fun d => openB g d && (farH d r).isSome).map DoorH.name
  | [], _, _ => rfl
  | d :: ds, h, hp => by
    have ih := leads_go (g := g) (p := p) (r := r) (ds := ds) (fun z hz => h z (List.mem_cons_of_mem _ hz)) fun z hz => hp z (List.mem_cons_of_mem _ hz)
    have e : leadsH (d :: ds) r = leadsOf1 d r ++ leadsH ds r := by
      unfold leadsH
      rw [List.flatMap_cons]
    rw [e, leads_far d (h d List.mem_cons_self), List.filter_append, List.map_append, ih, List.filter_cons]
    cases hf : farH d r with
    | none => simp
    | some b =>
      have q := hp d List.mem_cons_self
      cases ho : openB g d with
      | true => rw [ho] at q; simp [q]
      | false => rw [ho] at q; simp [q]
theorem placed_count {q : Str} : ∀ {ss : List (Str × Int)} {ps : List Str}, ps.length = ss.length → (placedL (ss.zip ps) q).length = ps.count q
  | [], [], _ => rfl
  | s :: ss, p :: ps, h => by
    have ih := placed_count (q := q) (ss := ss) (ps := ps) (by simpa using h)
    unfold placedL at ih ⊢
    rw [List.zip_cons_cons, List.filter_cons, List.count_cons]
    by_cases e : p = q
    · subst e
      simp at ih ⊢
      exact ih
    · simp [e] at ih ⊢
      exact ih
theorem canLay_rows : ∀ {rs : List RowH}, (∀ r ∈ rs, PyData.strOk r.room = true) → PyData.canLayAll0 (rs.map RowH.data) = true ∧ PyData.depthAll (rs.map RowH.data) ≤ 10
  | [], _ => ⟨rfl, by decide⟩
  | r :: rs, h => by
    obtain ⟨h1, h2⟩ := canLay_rows (rs := rs) fun z hz => h z (List.mem_cons_of_mem _ hz)
    obtain ⟨_, g1, g2⟩ := plain_row (h r List.mem_cons_self)
    rw [List.map_cons]
    constructor
    · simp only [PyData.canLayAll0, g1, h1, Bool.and_self]
    · simp only [PyData.depthAll]
      omega
theorem shaped_rows {rs : List RowH} (h : ∀ r ∈ rs, PyData.strOk r.room = true) : SeqAt.shaped (.list (rs.map RowH.data)) = true := by
  obtain ⟨h1, h2⟩ := canLay_rows h
  unfold SeqAt.shaped
  have : PyData.depth (.list (rs.map RowH.data)) ≤ 64 := by
    simp only [PyData.depth]
    omega
  simp only [PyData.canLay0, h1, this, decide_true, Bool.and_self]
theorem eqvE_nil (ds : List PyData) : PyData.eqv (.list ds) (.list []) = ds.isEmpty := by
  cases ds <;> simp [PyData.eqv, PyData.eqvAll]
theorem open_empty {g : Str → Int} {d : DoorH} : (d.rows.filter fun r => !metB g r).isEmpty = openB g d := by
  unfold openB
  induction d.rows with
  | nil => rfl
  | cons r rs ih =>
    rw [List.filter_cons, List.all_cons]
    cases h : metB g r with
    | true => simp [ih]
    | false => simp
end Wd

set_option Elab.async false
set_option linter.all false
set_option maxRecDepth 100000
set_option maxHeartbeats 4000000
/-! sorted(xs) of a list of data; deeds rise. -/
namespace Wd
open PySem PySem.Spec PyProof.Rows L2 PySem.W
section
variable {X : Cx} {pins : List (Addr × Obj)} {σ : L2.St} {H : Hp} {s : Shared}
theorem each_of_valsD : ∀ {xs : List (V × PyData)} {vs : List Value}, Vals (xs.map Prod.fst) vs → EachIs (fun u (x : V × PyData) => RelV x.1 u) vs xs
  | [], _, .nil => .nil
  | _ :: _, _, .cons h r => .cons h (each_of_valsD r)
theorem vals_of_eachD : ∀ {xs : List (V × PyData)} {vs : List Value}, EachIs (fun u (x : V × PyData) => RelV x.1 u) vs xs → Vals (xs.map Prod.fst) vs
  | _, _, .nil => .nil
  | _, _, .cons h r => .cons h (vals_of_eachD r)
theorem each_readsD (I : Inv X pins σ H s) : ∀ {xs : List (V × PyData)} {vs : List Value}, (∀ x ∈ xs, Dp X.K H x.1 x.2) → Vals (xs.map Prod.fst) vs → EachIs (fun u (x : V × PyData) => ∃ as, Reads s.heap u x.2 as) vs xs
  | [], _, _, .nil => .nil
  | x :: _, _, hd, .cons h r => .cons (Dp.reads I x.2 x.1 _ (hd x List.mem_cons_self) h) (each_readsD I (fun y hy => hd y (List.mem_cons_of_mem _ hy)) r)
def rSortD (K : PySem.W.Frag) : List V → Hp → VK → Prop := fun vs H Q => ∃ (a : Addr) (bs : List (V × PyData)), vs = [V.ref a] ∧ SqL K H a (bs.map Prod.fst) ∧ (∀ b ∈ bs, Dp K H b.1 b.2) ∧ AllAlike (bs.map Prod.snd) ∧ PySem.W.Sortable (bs.map Prod.snd) ∧ (∀ b ∈ bs, b.2.depth ≤ 60) ∧
  ∀ p, H p = none → Q (.ref p) (upd H p (.lst ((bs.mergeSort (dataLe false Prod.snd)).map Prod.fst)))
theorem cr_sortD {K : PySem.W.Frag} (hu : X.A.units + 64 < cLine) (hK : X.K = K := by rfl) : CallR X (.builtin "sorted") (rSortD K) := by
  subst hK
  intro pins s σ H vs us Q I r h
  obtain ⟨a, bs, rfl, hs, hd, hal, hk, hdp, q⟩ := h
  obtain ⟨its, rv, pl, hz⟩ := I.list hs
  rw [Vals.ref1 r]
  have hl := rv.length
  rw [List.length_map] at hl hz
  refine sorted_data pl.isList (each_of_valsD rv) (each_readsD I hd rv) hal hk (by omega) (fun b hb => ?_) fun out ol eo => ?_
  · have := hdp b hb
    omega
  · have vo := vals_of_eachD eo
    obtain ⟨c, hc⟩ := sortedAll_at s.heap its (List.toArray out)
    have zo : ((bs.mergeSort (dataLe false Prod.snd)).map Prod.fst).length ≤ sizeLine := by rw [List.length_map, List.length_mergeSort]; exact hz
    refine ⟨.ref _, upd H _ (.lst ((bs.mergeSort (dataLe false Prod.snd)).map Prod.fst)), I.laid (t' := s.toks) (fun b u e => sortedAll_old e) (Nat.le_succ _) (show ObjOk X.prog X.w _ _ _ (.lst ((bs.mergeSort (dataLe false Prod.snd)).map Prod.fst)) from ⟨zo, out, c, vo, hc⟩), rfl, q _ (I.hok.fresh (Nat.le_succ _))⟩
end
/-! ### lists of texts as Python orders them -/
def toksS : List Str → List (Int ⊕ List Nat)
  | [] => [.inl 0]
  | x :: r => .inl 1 :: .inr x.cps.toList :: toksS r
theorem toks_strs : ∀ xs : List Str, keyToksAll (xs.map PyData.str) = toksS xs
  | [] => by rw [List.map_nil, keyToksAll, toksS]
  | x :: r => by
    rw [List.map_cons, keyToksAll, keyToks, toks_strs r, toksS]
    rfl
theorem toks_deed (z : List Str) : keyToks (deedD z) = toksS z := by
  unfold deedD
  rw [keyToks, toks_strs]
def leD (a b : List Str) : Prop := lexLt itemOrd (toksS b) (toksS a) = false
theorem leD_iff {β : Type} {k : β → List Str} {x y : β} : dataLe false (fun b => deedD (k b)) x y = true ↔ leD (k x) (k y) := by
  show (!lexLt itemOrd (keyToks (deedD (k y))) (keyToks (deedD (k x)))) = true ↔ _
  rw [toks_deed, toks_deed, Bool.not_eq_true']
  exact Iff.rfl
theorem leD_head {w : Str} {a b : Str} (h : leT a b) : leD [w, a] [w, b] := by
  unfold leD
  have e1 : toksS [w, b] = [.inl 1, .inr w.cps.toList, .inl 1] ++ [.inr b.cps.toList, .inl 0] := rfl
  have e2 : toksS [w, a] = [.inl 1, .inr w.cps.toList, .inl 1] ++ [.inr a.cps.toList, .inl 0] := rfl
  rw [e1, e2, lex_pre]
  by_cases e : a.cps.toList = b.cps.toList
  · rw [e]
    exact lex_irrefl _
  · rw [lex_cons]
    have hlt : ¬ b.cps.toList < a.cps.toList := fun z => List.not_lt.mpr h z
    have e1 : (itemOrd.blt (Sum.inr b.cps.toList) (Sum.inr a.cps.toList)) = false := decide_eq_false hlt
    have hgt : a.cps.toList < b.cps.toList := Decidable.byContradiction fun z => e (List.le_antisymm h (List.not_lt.mp z))
    have e2 : (itemOrd.blt (Sum.inr a.cps.toList) (Sum.inr b.cps.toList)) = true := decide_eq_true hgt
    rw [e1, e2]
    rfl
/-- unlike first words -/
theorem leD_word {w v : Str} {r t : List Str} (h : w.cps.toList < v.cps.toList) : leD (w :: r) (v :: t) := by
  unfold leD
  have e1 : toksS (v :: t) = [.inl 1] ++ (.inr v.cps.toList :: toksS t) := rfl
  have e2 : toksS (w :: r) = [.inl 1] ++ (.inr w.cps.toList :: toksS r) := rfl
  rw [e1, e2, lex_pre, lex_diff]
  · exact decide_eq_false fun z => List.lt_asymm h z
  · intro z
    have := Sum.inr.inj z
    rw [this] at h
    exact List.lt_irrefl _ h
theorem pair_map {w : Str} {xs : List Str} (h : xs.Pairwise leT) : (xs.map fun d => [w, d]).Pairwise leD := by
  rw [List.pairwise_map]
  exact h.imp fun h => leD_head h
theorem deeds_rise {go lay lift : List Str} (h1 : go.Pairwise leT) (h2 : lay.Pairwise leT) (h3 : lift.Pairwise leT) : (deedsOf go lay lift).Pairwise leD := by
  unfold deedsOf
  have wd : ∀ {w v : Str} {xs : List Str} {z y : List Str}, w.cps.toList < v.cps.toList → z ∈ xs.map (fun d => [w, d]) → (∃ t, y = v :: t) → leD z y := by
    intro w v xs z y hw hz ⟨t, e⟩
    obtain ⟨d, _, rfl⟩ := List.mem_map.mp hz
    rw [e]
    exact leD_word hw
  have hd : ∀ {w : Str} {xs : List Str} {z : List Str}, z ∈ xs.map (fun d => [w, d]) → ∃ t, z = w :: t := fun hz => by
    obtain ⟨d, _, rfl⟩ := List.mem_map.mp hz
    exact ⟨_, rfl⟩
  refine List.pairwise_append.mpr ⟨List.pairwise_append.mpr ⟨List.pairwise_append.mpr ⟨pair_map h1, pair_map h2, fun a ha b hb => wd (by decide) ha (hd hb)⟩, pair_map h3, fun a ha b hb => ?_⟩, List.pairwise_singleton _ _, fun a ha b hb => ?_⟩
  · rcases List.mem_append.mp ha with ha | ha
    · exact wd (by decide) ha (hd hb)
    · exact wd (by decide) ha (hd hb)
  · rw [List.mem_singleton.mp hb]
    rcases List.mem_append.mp ha with ha | ha
    · rcases List.mem_append.mp ha with ha | ha
      · exact wd (by decide) ha ⟨_, rfl⟩
      · exact wd (by decide) ha ⟨_, rfl⟩
    · exact wd (by decide) ha ⟨_, rfl⟩
theorem sort_keeps {bs : List (V × List Str)} (h : (bs.map Prod.snd).Pairwise leD) : (bs.map fun z => (z.1, deedD z.2)).mergeSort (dataLe false Prod.snd) = bs.map fun z => (z.1, deedD z.2) := by
  refine List.mergeSort_of_pairwise ?_
  rw [List.pairwise_map] at h ⊢
  exact h.imp fun {a b} h => leD_iff (k := fun z : V × List Str => z.2) (x := a) (y := b) |>.mpr h
theorem alike_deed : ∀ xs ys : List Str, alikeAll (xs.map PyData.str) (ys.map PyData.str) = true
  | [], _ => by rw [List.map_nil, alikeAll]
  | x :: xs, [] => by rw [List.map_cons, List.map_nil, alikeAll]
  | x :: xs, y :: ys => by rw [List.map_cons, List.map_cons, alikeAll, alike, alike_deed xs ys]; rfl
theorem alike_deeds {β : Type} {k : β → List Str} (bs : List β) : AllAlike (bs.map fun b => deedD (k b)) := AllAlike.of fun b b' => by
  unfold deedD
  rw [alike]
  exact alike_deed _ _
/-! ### what is laid or lifted -/
theorem placedL_snoc (zs : List ((Str × Int) × Str)) (a : (Str × Int) × Str) (q : Str) : placedL (zs ++ [a]) q = placedL zs q ++ if a.2 = q then [a.1.1] else [] := by
  unfold placedL
  rw [List.filter_append, List.map_append]
  by_cases e : a.2 = q
  · rw [if_pos e, List.filter_cons_of_pos (by simpa using e)]
    rfl
  · rw [if_neg e, List.filter_cons_of_neg (by simpa using e)]
    rfl
theorem placedL_len (zs : List ((Str × Int) × Str)) (q : Str) : (placedL zs q).length ≤ zs.length := by
  unfold placedL
  rw [List.length_map]
  exact List.length_filter_le _ _
theorem tOnly_deed (z : List Str) : tOnly (deedD z) = true := by
  unfold deedD
  rw [tOnly]
  exact tOnly_map (f := PyData.str) (fun _ => rfl) z
theorem deeds_move {N : Addr → Prop} {K : PySem.W.Frag} {H H' : Hp} {vs : List V} {ds : List (List Str)} (s : ∀ a xs, SqT K H a xs → SqT K H' a xs) (h : DqAll N K H vs (ds.map deedD)) : DqAll N K H' vs (ds.map deedD) :=
  DqAll.moveT (fun _ z => z) (fun a xs _ h => s a xs h) _ _ (tOnly_map tOnly_deed ds) h
theorem dq_deed2 {K : PySem.W.Frag} {H : Hp} {t : Addr} {a b : Str} (h : SqT K H t [.str a, .str b]) : Dq anyA K H (.ref t) (deedD [a, b]) := .tup trivial h (.cons (.str _) (.cons (.str _) .nil))
theorem dq_deed1 {K : PySem.W.Frag} {H : Hp} {t : Addr} {a : Str} (h : SqT K H t [.str a]) : Dq anyA K H (.ref t) (deedD [a]) := .tup trivial h (.cons (.str _) .nil)
theorem goL_far {x : HallH} {g : Str → Int} {r : Str} : ((x.doors.filter (openB g)).filter fun d => (farH d r).isSome).map DoorH.name = goL x g r := by
  unfold goL
  rw [List.filter_filter]
  congr 1
  exact List.filter_congr fun d _ => by rw [Bool.and_comm]
theorem DqAll.append {N : Addr → Prop} {K : PySem.W.Frag} {H : Hp} : ∀ {vs ws : List V} {ds es : List PyData}, DqAll N K H vs ds → DqAll N K H ws es → DqAll N K H (vs ++ ws) (ds ++ es)
  | [], _, [], _, .nil, h => h
  | _ :: _, _, _ :: _, _, .cons a r, h => .cons a (DqAll.append r h)
theorem vstr_ne {a b : Str} (h : ¬ decide (V.str a = V.str b) = true) : a ≠ b := fun e => h (decide_eq_true (by rw [e]))
theorem vstr_eq {a b : Str} (h : decide (V.str a = V.str b) = true) : a = b := by
  have := of_decide_eq_true h
  injection this
def deedsZ (x : HallH) (rs ps : List Str) (z : WalkH) (r : Str) : List (List Str) := deedsOf (goL x (borneH x rs ps (some z.name)) r) (placedL (x.stones.zip ps) z.name) (if (ps.count z.name : Int) < z.hands then placedL (x.stones.zip ps) r else [])
/-! ### all that is known of deeds that can be done -/
structure DeedsOk (ds : List (List Str)) : Prop where
  rise : ds.Pairwise leD
  names : ∀ d ∈ ds, ∀ s ∈ d, NameOk s
  two : ∀ d ∈ ds, d.length ≤ 2 ∧ d ≠ []
  few : ds.length ≤ 181
theorem goL_sub {x : HallH} {g : Str → Int} {r : Str} : (goL x g r).Sublist (x.doors.map DoorH.name) := by
  unfold goL
  exact (List.filter_sublist).map _
theorem placedL_sub {ss : List (Str × Int)} {ps : List Str} {q : Str} (h : ps.length = ss.length) : (placedL (ss.zip ps) q).Sublist (ss.map Prod.fst) := by
  have e : (ss.zip ps).map (fun z => z.1.1) = ss.map Prod.fst := by
    have : (ss.zip ps).map (fun z => z.1.1) = ((ss.zip ps).map Prod.fst).map Prod.fst := by rw [List.map_map]; rfl
    rw [this, List.map_fst_zip (by omega)]
  unfold placedL
  rw [← e]
  exact (List.filter_sublist).map _
theorem deedsZ_ok {sr sd ss sw t : Nat} {x : HallH} {rs ps : List Str} {z : WalkH} {r : Str} (ok : HallOk sr sd ss sw x) (b2 : sd ≤ 60) (b3 : ss ≤ 60) (sh : StandH x t rs ps) : DeedsOk (deedsZ x rs ps z r) := by
  unfold deedsZ
  generalize borneH x rs ps (some z.name) = g
  have hgo : (goL x g r).Sublist (x.doors.map DoorH.name) := goL_sub
  have hlay : (placedL (x.stones.zip ps) z.name).Sublist (x.stones.map Prod.fst) := placedL_sub sh.pl
  have hlift : (if (ps.count z.name : Int) < z.hands then placedL (x.stones.zip ps) r else []).Sublist (x.stones.map Prod.fst) := by
    split
    · exact placedL_sub sh.pl
    · exact List.nil_sublist _
  generalize goL x g r = go at hgo
  generalize placedL (x.stones.zip ps) z.name = lay at hlay
  generalize (if (ps.count z.name : Int) < z.hands then placedL (x.stones.zip ps) r else []) = lift at hlift
  have dn : ∀ y ∈ x.doors.map DoorH.name, NameOk y := fun y hy => ok.n2 _ (by unfold HallH.names; exact List.mem_append_right _ (List.mem_append_right _ (List.mem_append_right _ hy)))
  have sn : ∀ y ∈ x.stones.map Prod.fst, NameOk y := fun y hy => ok.n2 _ (by unfold HallH.names; exact List.mem_append_right _ (List.mem_append_right _ (List.mem_append_left _ hy)))
  have dl := ok.d2
  have sl := ok.s2
  have hd : ∀ d ∈ deedsOf go lay lift, (∃ w y, d = [w, y] ∧ NameOk w ∧ NameOk y) ∨ d = [(Str.ofString "wait" : Str)] := by
    intro d hd
    unfold deedsOf at hd
    rcases List.mem_append.mp hd with hd | hd
    · rcases List.mem_append.mp hd with hd | hd
      · rcases List.mem_append.mp hd with hd | hd
        · obtain ⟨y, hy, rfl⟩ := List.mem_map.mp hd
          exact .inl ⟨_, y, rfl, by decide +kernel, dn _ (hgo.subset hy)⟩
        · obtain ⟨y, hy, rfl⟩ := List.mem_map.mp hd
          exact .inl ⟨_, y, rfl, by decide +kernel, sn _ (hlay.subset hy)⟩
      · obtain ⟨y, hy, rfl⟩ := List.mem_map.mp hd
        exact .inl ⟨_, y, rfl, by decide +kernel, sn _ (hlift.subset hy)⟩
    · exact .inr (List.mem_singleton.mp hd)
  refine ⟨deeds_rise ((sorted_pair ok.d3).sublist hgo) ((sorted_pair ok.s3).sublist hlay) ((sorted_pair ok.s3).sublist hlift), fun d hm s hs => ?_, fun d hm => ?_, ?_⟩
  · rcases hd d hm with ⟨w, y, rfl, h1, h2⟩ | rfl
    · rcases List.mem_cons.mp hs with rfl | hs
      · exact h1
      · rw [List.mem_singleton.mp hs]; exact h2
    · rw [List.mem_singleton.mp hs]; decide +kernel
  · rcases hd d hm with ⟨w, y, rfl, h1, h2⟩ | rfl
    · exact ⟨by simp, by simp⟩
    · exact ⟨by simp, by simp⟩
  · have l1 := hgo.length_le
    have l2 := hlay.length_le
    have l3 := hlift.length_le
    rw [List.length_map] at l1 l2 l3
    unfold deedsOf
    rw [List.length_append, List.length_append, List.length_append, List.length_map, List.length_map, List.length_map]
    show _ + 1 ≤ 181
    omega
theorem neat_deed {d : List Str} (h : ∀ s ∈ d, NameOk s) (h2 : d.length ≤ 2) : Neat 18 1 (deedD d) := by
  unfold deedD
  refine neat_tup (w := 8) (dp := 0) (m := 2) (fun z hz => ?_) (by rw [List.length_map]; exact h2)
  obtain ⟨s, hs, rfl⟩ := List.mem_map.mp hz
  exact neat_name (h s hs)
theorem DeedsOk.neat {ds : List (List Str)} (h : DeedsOk ds) : Neat 3439 2 (.list (ds.map deedD)) :=
  neat_lst (w := 18) (dp := 1) (m := 181) (fun z hz => by
    obtain ⟨d, hd, rfl⟩ := List.mem_map.mp hz
    exact neat_deed (h.names d hd) (h.two d hd).1) (by rw [List.length_map]; exact h.few)
theorem eqv_strs : ∀ xs : List Str, PyData.eqvAll (xs.map PyData.str) (xs.map PyData.str) = true
  | [] => by simp [PyData.eqvAll]
  | x :: xs => by simp [PyData.eqvAll, PyData.eqv, eqv_strs xs]
theorem eqv_deeds : ∀ ds : List (List Str), PyData.eqvAll (ds.map deedD) (ds.map deedD) = true
  | [] => by simp [PyData.eqvAll]
  | d :: ds => by
    have h := eqv_strs d
    simp [PyData.eqvAll, deedD, PyData.eqv, h]
    exact eqv_deeds ds
theorem noDict_strs : ∀ xs : List Str, PyData.hasDictAll (xs.map PyData.str) = false := strs_noDict
theorem noDict_deed (d : List Str) : (deedD d).hasDict = false := by
  unfold deedD
  simp only [PyData.hasDict, strs_noDict]
theorem noDict_deeds : ∀ ds : List (List Str), PyData.hasDictAll (ds.map deedD) = false
  | [] => rfl
  | d :: ds => by
    rw [List.map_cons]
    simp only [PyData.hasDictAll, noDict_deeds ds, noDict_deed, Bool.or_false]
theorem lay_strs : ∀ {xs : List Str}, (∀ s ∈ xs, NameOk s) → PyData.canLayAll0 (xs.map PyData.str) = true
  | [], _ => rfl
  | x :: xs, h => by
    rw [List.map_cons]
    simp only [PyData.canLayAll0, PyData.canLay0, name_ok (h x List.mem_cons_self), lay_strs fun s hs => h s (List.mem_cons_of_mem _ hs), Bool.and_self]
theorem depth_strs : ∀ xs : List Str, PyData.depthAll (xs.map PyData.str) = 0
  | [] => by simp [PyData.depthAll]
  | x :: xs => by
    have h := depth_strs xs
    rw [List.map_cons]
    simp only [PyData.depthAll, PyData.depth, h]
    decide
theorem depth_deed (d : List Str) : (deedD d).depth ≤ 1 := by
  unfold deedD
  simp only [PyData.depth, depth_strs]
  omega
theorem lay_deeds : ∀ {ds : List (List Str)}, (∀ d ∈ ds, ∀ s ∈ d, NameOk s) → PyData.canLayAll0 (ds.map deedD) = true ∧ PyData.depthAll (ds.map deedD) ≤ 1
  | [], _ => ⟨rfl, by simp [PyData.depthAll]⟩
  | d :: ds, h => by
    obtain ⟨h1, h2⟩ := lay_deeds (ds := ds) fun z hz => h z (List.mem_cons_of_mem _ hz)
    have h3 := depth_deed d
    have h4 := lay_strs (h d List.mem_cons_self)
    rw [List.map_cons]
    constructor
    · simp only [PyData.canLayAll0, h1, Bool.and_true]
      unfold deedD
      simp only [PyData.canLay0, h4]
    · simp only [PyData.depthAll]
      omega
theorem DeedsOk.shaped {ds : List (List Str)} (h : DeedsOk ds) : SeqAt.shaped (.list (ds.map deedD)) = true := by
  obtain ⟨h1, h2⟩ := lay_deeds h.names
  exact shaped_list h1 (by omega)
/-- told != sorted(told) -/
theorem sorted_told {K : PySem.W.Frag} {H : Hp} {l : Addr} {vs : List V} {ds : List (List Str)} {Q : VK} (ok : DeedsOk ds) (hl : H l = some (.lst vs)) (dq : DqAll anyA K H vs (ds.map deedD)) (q : ∀ p, H p = none → Q (.bl false) (upd H p (.lst vs))) :
    rSortD K [.ref l] H fun y H' => rNeX K (.ref l) y H' Q := by
  have lv : vs.length = ds.length := by rw [dq.length, List.length_map]
  have f1 : ((vs.zip ds).map fun z => (z.1, deedD z.2)).map Prod.fst = vs := by
    rw [List.map_map]
    exact (List.map_fst_zip (l₁ := vs) (l₂ := ds) (by omega))
  have f2 : ((vs.zip ds).map fun z => (z.1, deedD z.2)).map Prod.snd = ds.map deedD := by
    rw [List.map_map]
    have e : (vs.zip ds).map Prod.snd = ds := List.map_snd_zip (by omega)
    rw [← e, List.map_map]
    rw [e]
    rfl
  have hdp : ∀ b ∈ (vs.zip ds).map fun z => (z.1, deedD z.2), Dp K H b.1 b.2 := by
    intro b hb
    obtain ⟨z, hz, rfl⟩ := List.mem_map.mp hb
    obtain ⟨i, hi, ez⟩ := List.getElem_of_mem hz
    rw [List.length_zip] at hi
    rw [List.getElem_zip] at ez
    subst ez
    obtain ⟨d, hd, dqd⟩ := dq.get (List.getElem?_eq_getElem (show i < vs.length by omega))
    rw [List.getElem?_map, List.getElem?_eq_getElem (show i < ds.length by omega)] at hd
    cases hd
    exact Dq.dp _ _ (noDict_deed _) dqd
  refine ⟨l, (vs.zip ds).map fun z => (z.1, deedD z.2), rfl, by rw [f1]; exact .inl (.inl hl), hdp, ?_, ?_, ?_, fun p np => ?_⟩
  · rw [f2]
    exact alike_deeds ds (k := fun d => d)
  · rw [f2]
    refine .inl fun d hd => ?_
    obtain ⟨z, hz, rfl⟩ := List.mem_map.mp hd
    obtain ⟨_, hn⟩ := ok.two z hz
    cases z with
    | nil => exact absurd rfl hn
    | cons a b => exact ⟨_, _, by unfold deedD; rw [List.map_cons]⟩
  · intro b hb
    obtain ⟨z, _, rfl⟩ := List.mem_map.mp hb
    have := depth_deed z.2
    show (deedD z.2).depth ≤ 60
    omega
  · have e : (vs.zip ds).map Prod.snd = ds := List.map_snd_zip (by omega)
    rw [sort_keeps (bs := vs.zip ds) (by rw [e]; exact ok.rise), f1]
    have s1 := same_new np (o := .lst vs)
    refine .inr ⟨.list (ds.map deedD), .list (ds.map deedD), ?_, ?_, ok.shaped, ok.shaped, ?_⟩
    · exact Dq.dp (N := anyA) _ _ (by simp only [PyData.hasDict]; exact noDict_deeds _) (.lst trivial (.inl (.inl (s1 _ _ hl))) (DqAll.mono s1 dq))
    · exact Dq.dp (N := anyA) _ _ (by simp only [PyData.hasDict]; exact noDict_deeds _) (.lst trivial (.inl (.inl upd_same)) (DqAll.mono s1 dq))
    · have : PyData.eqv (.list (ds.map deedD)) (.list (ds.map deedD)) = true := by
        simp only [PyData.eqv]
        exact eqv_deeds ds
      rw [this]
      exact q p np
/-! ### stands show short -/
theorem neat_stand {sr sd ss sw t : Nat} {x : HallH} {rs ps : List Str} (ok : HallOk sr sd ss sw x) (b1 : ss ≤ 60) (b4 : sw ≤ 60) (sh : StandH x t rs ps) : Neat 1623 2 (standD t rs ps) := by
  have rn : ∀ z ∈ x.rooms, NameOk z := fun z hz => ok.n2 _ (by unfold HallH.names; exact List.mem_append_left _ hz)
  have wn : ∀ z ∈ x.walkers.map WalkH.name, NameOk z := fun z hz => ok.n2 _ (by unfold HallH.names; exact List.mem_append_right _ (List.mem_append_left _ hz))
  have h1 := ok.w2
  have h2 := ok.s2
  have h3 := sh.t
  unfold standD
  refine neat_tup (w := 540) (dp := 1) (m := 3) (fun z hz => ?_) (by simp)
  rcases List.mem_cons.mp hz with rfl | hz
  · exact (neat_heft (i := (t : Int)) (by omega) (by omega)).mono (by decide) (by decide)
  rcases List.mem_cons.mp hz with rfl | hz
  · refine (neat_tup (w := 8) (dp := 0) (m := 60) (fun z hz => ?_) (by rw [List.length_map, sh.rl]; omega)).mono (by decide) (by decide)
    obtain ⟨s, hs, rfl⟩ := List.mem_map.mp hz
    exact neat_name (rn _ (sh.rin s hs))
  rw [List.mem_singleton.mp hz]
  refine (neat_tup (w := 8) (dp := 0) (m := 60) (fun z hz => ?_) (by rw [List.length_map, sh.pl]; omega)).mono (by decide) (by decide)
  obtain ⟨s, hs, rfl⟩ := List.mem_map.mp hz
  rcases sh.pin s hs with h | h
  · exact neat_name (rn _ h)
  · exact neat_name (wn _ h)
end Wd

set_option Elab.async false
set_option linter.all false
set_option maxRecDepth 100000
set_option maxHeartbeats 4000000
/-! A deed done: what stands behind it, as data. -/
namespace Wd
open PySem PySem.Spec PyProof.Rows L2
theorem iteN {c : Prop} [Decidable c] {A B : Prop} (h : ¬ c) (b : B) : if decide c = true then A else B := by
  rw [if_neg fun e => h (of_decide_eq_true e)]
  exact b
theorem iteY {c : Prop} [Decidable c] {A B : Prop} (h : c) (a : A) : if decide c = true then A else B := by
  rw [if_pos (decide_eq_true h)]
  exact a
theorem sne {a b : Str} (h : a ≠ b) : ¬ (V.str a = V.str b) := fun e => h (by injection e)
/-- the far side of the first told door of that name -/
def behindL (ds : List DoorH) (r dn : Str) : Option Str := ((leadsH ds r).find? fun z => decide (z.1 = dn)).map Prod.snd
theorem leads_off {dn r : Str} : ∀ {ds : List DoorH}, (∀ d ∈ ds, d.one ≠ d.other) → dn ∉ ds.map DoorH.name → (leadsH ds r).find? (fun z => decide (z.1 = dn)) = none
  | [], _, _ => rfl
  | d :: ds, h, n => by
    have e : leadsH (d :: ds) r = leadsOf1 d r ++ leadsH ds r := rfl
    rw [e, List.find?_append, leads_off (fun z hz => h z (List.mem_cons_of_mem _ hz)) fun m => n (List.mem_cons_of_mem _ m), leads_far d (h d List.mem_cons_self)]
    cases farH d r with
    | none => rfl
    | some b =>
      have : d.name ≠ dn := fun z => n (by rw [← z]; exact List.mem_cons_self)
      simp [Option.elim, this]
theorem behind_far {r : Str} {d : DoorH} : ∀ {ds : List DoorH}, (ds.map DoorH.name).Nodup → (∀ d ∈ ds, d.one ≠ d.other) → d ∈ ds → behindL ds r d.name = farH d r
  | d0 :: ds, nd, h, hd => by
    have e : leadsH (d0 :: ds) r = leadsOf1 d0 r ++ leadsH ds r := rfl
    obtain ⟨n0, n1⟩ := List.nodup_cons.mp nd
    unfold behindL
    rw [e, List.find?_append, leads_far d0 (h d0 List.mem_cons_self)]
    rcases List.mem_cons.mp hd with rfl | hd
    · rw [leads_off (fun z hz => h z (List.mem_cons_of_mem _ hz)) n0]
      cases farH d r with
      | none => rfl
      | some b => simp [Option.elim]
    · have ne : d0.name ≠ d.name := fun z => n0 (by rw [z]; exact List.mem_map.mpr ⟨d, hd, rfl⟩)
      have ih := behind_far (r := r) n1 (fun z hz => h z (List.mem_cons_of_mem _ hz)) hd
      unfold behindL at ih
      cases farH d0 r with
      | none => simpa [Option.elim] using ih
      | some b => simpa [Option.elim, ne] using ih
/-- a deed that can be done in form: the walker's rooms and the stones' places behind it -/
inductive StepH (x : HallH) (t : Nat) (rs ps : List Str) : List Str → List Str → List Str → Prop
  | go {d : DoorH} {r b : Str} (hd : d ∈ x.doors) (hr : rs[t]? = some r) (hb : farH d r = some b) : StepH x t rs ps [Str.ofString "go", d.name] (rs.set t b) ps
  | lift {j : Nat} {s : Str} {z : WalkH} (hs : (x.stones.map Prod.fst)[j]? = some s) (hz : x.walkers[t]? = some z) : StepH x t rs ps [Str.ofString "lift", s] rs (ps.set j z.name)
  | lay {j : Nat} {s r : Str} (hs : (x.stones.map Prod.fst)[j]? = some s) (hr : rs[t]? = some r) : StepH x t rs ps [Str.ofString "lay", s] rs (ps.set j r)
  | wait : StepH x t rs ps [Str.ofString "wait"] rs ps
theorem first_at {xs : List Str} (nd : xs.Nodup) {j : Nat} {s : Str} (h : xs[j]? = some s) {m : Nat} {z : Str} (hm : m < j) (hz : xs[m]? = some z) : z ≠ s := fun e => by
  subst e
  have h1 := (List.getElem?_eq_some_iff.mp h).1
  have h2 := (List.getElem?_eq_some_iff.mp hz).1
  exact (List.pairwise_iff_getElem.mp nd) m j h2 h1 hm (by rw [(List.getElem?_eq_some_iff.mp h).2, (List.getElem?_eq_some_iff.mp hz).2])
theorem lead_inv2 {N : Addr → Prop} {K : PySem.W.Frag} {H : Hp} {v : V} {z : Str × Str} (h : Dq N K H v (leadD z)) : ∃ t : Addr, v = .ref t ∧ SqT K H t [.str z.1, .str z.2] := by
  unfold leadD at h
  cases h with
  | tup n e q =>
    cases q with
    | cons q1 q =>
      cases q with
      | cons q2 q =>
        cases q
        cases q1
        cases q2
        exact ⟨_, rfl, e⟩
theorem unm_empty {K : PySem.W.Frag} {v2 : List V} {g : Str → Int} {d : DoorH} {H : Hp} (dq : DqAll anyA K H v2 ((d.rows.filter fun r => !metB g r).map fun r => PyData.tuple [r.data, .int (g r.room)])) : v2.isEmpty = openB g d := by
  rw [← open_empty]
  have := dq.length
  rw [List.length_map] at this
  cases v2 with
  | nil => cases h : d.rows.filter fun r => !metB g r with
    | nil => rfl
    | cons a b => rw [h] at this; cases this
  | cons a b => cases h : d.rows.filter fun r => !metB g r with
    | nil => rw [h] at this; cases this
    | cons a b => rfl
/-- the place of a stone -/
def placeOf (x : HallH) (ps : List Str) (s : Str) : Option Str := ((x.stones.zip ps).find? fun z => decide (z.1.1 = s)).map Prod.snd
theorem place_at {s q : Str} : ∀ {ss : List (Str × Int)} {ps : List Str} {j : Nat}, (ss.map Prod.fst).Nodup → (ss.map Prod.fst)[j]? = some s → ps[j]? = some q → ((ss.zip ps).find? fun z => decide (z.1.1 = s)).map Prod.snd = some q
  | a :: ss, p :: ps, 0, _, h1, h2 => by
    have e1 : a.1 = s := by simpa using h1
    have e2 : p = q := by simpa using h2
    simp [e1, e2]
  | a :: ss, p :: ps, j + 1, nd, h1, h2 => by
    obtain ⟨n0, n1⟩ := List.nodup_cons.mp nd
    have h1' : (ss.map Prod.fst)[j]? = some s := by simpa using h1
    have h2' : ps[j]? = some q := by simpa using h2
    have ne : ¬ a.1 = s := fun e => n0 (by rw [e]; exact List.mem_of_getElem? h1')
    rw [List.zip_cons_cons, List.find?_cons_of_neg (by simp [ne])]
    exact place_at n1 h1' h2'
theorem place_off {s : Str} {ss : List (Str × Int)} {ps : List Str} (h : s ∉ ss.map Prod.fst) : ((ss.zip ps).find? fun z => decide (z.1.1 = s)).map Prod.snd = none := by
  have : (ss.zip ps).find? (fun z => decide (z.1.1 = s)) = none := List.find?_eq_none.mpr fun z hz e => h (by
    have e' : z.1.1 = s := of_decide_eq_true e
    rw [← e']
    exact List.mem_map.mpr ⟨z.1, (List.of_mem_zip hz).1, rfl⟩)
  rw [this]
  rfl
end Wd

set_option Elab.async false
set_option linter.all false
set_option maxRecDepth 100000
set_option maxHeartbeats 4000000
/-! Why a deed can't be done, as data; what can be done, and that it leaves a stand. -/
namespace Wd
open PySem PySem.Spec PyProof.Rows L2
instance (z : Str) : Decidable (NameOk z) := by unfold NameOk IsName; infer_instance
def whyGo (x : HallH) (g : Str → Int) (r dn : Str) : Option Str := match x.doors.find? (fun d => decide (d.name = dn)) with
  | none => some "door"
  | some d => if (farH d r).isNone then some "room" else if openB g d then none else some "shut"
def whyLift (x : HallH) (ps : List Str) (z : WalkH) (r s : Str) : Option Str := match placeOf x ps s with
  | none => some "stone"
  | some q => if q ≠ r then some "far" else if z.hands ≤ (ps.count z.name : Nat) then some "hands" else none
def whyLay (x : HallH) (ps : List Str) (z : WalkH) (s : Str) : Option Str := match placeOf x ps s with
  | none => some "stone"
  | some q => if q ≠ z.name then some "held" else none
def goS : Str := Str.ofString "go"
def liftS : Str := Str.ofString "lift"
def layS : Str := Str.ofString "lay"
def deedB : List Str → Bool
  | [w, n] => [goS, liftS, layS].any (fun y => decide (y = w)) && decide (NameOk n)
  | [w] => decide (w = Str.ofString "wait")
  | _ => false
def whyD (x : HallH) (rs ps : List Str) (z : WalkH) (r : Str) (d : List Str) : Option Str := if deedB d then (match d with
  | [w, n] => if w = goS then whyGo x (borneH x rs ps (some z.name)) r n else if w = liftS then whyLift x ps z r n else whyLay x ps z n
  | _ => none) else some (Str.ofString "form")
theorem find_name {d : DoorH} : ∀ {ds : List DoorH}, (ds.map DoorH.name).Nodup → d ∈ ds → ds.find? (fun e => decide (e.name = d.name)) = some d
  | e :: ds, nd, hd => by
    obtain ⟨n0, n1⟩ := List.nodup_cons.mp nd
    rcases List.mem_cons.mp hd with rfl | hd
    · exact List.find?_cons_of_pos (by simp)
    · have ne : ¬ e.name = d.name := fun z => n0 (by rw [z]; exact List.mem_map.mpr ⟨d, hd, rfl⟩)
      rw [List.find?_cons_of_neg (by simp [ne])]
      exact find_name n1 hd
theorem placed_in {x : HallH} {ps : List Str} {q s : Str} (h : s ∈ placedL (x.stones.zip ps) q) : ∃ j : Nat, (x.stones.map Prod.fst)[j]? = some s ∧ ps[j]? = some q := by
  unfold placedL at h
  obtain ⟨z, hz, rfl⟩ := List.mem_map.mp h
  obtain ⟨hz1, hz2⟩ := List.mem_filter.mp hz
  obtain ⟨j, hj⟩ := List.mem_iff_getElem?.mp hz1
  have e2 : z.2 = q := of_decide_eq_true hz2
  obtain ⟨h1, h2⟩ := List.getElem?_zip_eq_some.mp hj
  exact ⟨j, by rw [List.getElem?_map, h1]; rfl, by rw [h2, e2]⟩
theorem names_apart {x : HallH} {q : Str} (nd : x.names.Nodup) (h : q ∈ x.rooms) : q ∉ x.walkers.map WalkH.name := fun m => by
  unfold HallH.names at nd
  exact (List.nodup_append.mp nd).2.2 q h q (List.mem_append_left _ m) rfl
/-- each told deed can be done -/
theorem deeds_why {sr sd ss sw t : Nat} {x : HallH} {rs ps d : List Str} {z : WalkH} {r : Str} (ok : HallOk sr sd ss sw x) (sh : StandH x t rs ps) (hz : x.walkers[t]? = some z) (hr : rs[t]? = some r) (hd : d ∈ deedsZ x rs ps z r) :
    whyD x rs ps z r d = none ∧ ∃ rs' ps', StepH x t rs ps d rs' ps' := by
  have nk := ok.n2
  have nd := ok.n1
  have na := names_apart ok.n1 (sh.rin r (List.mem_of_getElem? hr))
  have zin : z.name ∈ x.walkers.map WalkH.name := List.mem_map.mpr ⟨z, List.mem_of_getElem? hz, rfl⟩
  unfold HallH.names at nk nd
  have snd : (x.stones.map Prod.fst).Nodup := (List.nodup_append.mp (List.nodup_append.mp (List.nodup_append.mp nd).2.1).2.1).1
  have dnd : (x.doors.map DoorH.name).Nodup := (List.nodup_append.mp (List.nodup_append.mp (List.nodup_append.mp nd).2.1).2.1).2.1
  have dnk : ∀ y ∈ x.doors.map DoorH.name, NameOk y := fun y hy => nk y (List.mem_append_right _ (List.mem_append_right _ (List.mem_append_right _ hy)))
  have snk : ∀ y ∈ x.stones.map Prod.fst, NameOk y := fun y hy => nk y (List.mem_append_right _ (List.mem_append_right _ (List.mem_append_left _ hy)))
  have b2 : ∀ {w n : Str}, (w = goS ∨ w = liftS ∨ w = layS) → NameOk n → deedB [w, n] = true := fun {w n} hw hn => by
    show ([goS, liftS, layS].any (fun y => decide (y = w)) && decide (NameOk n)) = true
    rw [decide_eq_true hn, Bool.and_true, List.any_eq_true]
    exact ⟨w, by simpa using hw, by simp⟩
  have lg : ¬ layS = goS := by decide +kernel
  have ll : ¬ layS = liftS := by decide +kernel
  have lf : ¬ liftS = goS := by decide +kernel
  unfold deedsZ deedsOf at hd
  rcases List.mem_append.mp hd with hd | hd
  · rcases List.mem_append.mp hd with hd | hd
    · rcases List.mem_append.mp hd with hd | hd
      · obtain ⟨n, hn, rfl⟩ := List.mem_map.mp hd
        unfold goL at hn
        obtain ⟨dd, hdd, rfl⟩ := List.mem_map.mp hn
        obtain ⟨h1, h2⟩ := List.mem_filter.mp hdd
        obtain ⟨h3, h4⟩ := Bool.and_eq_true_iff.mp h2
        obtain ⟨bb, hb⟩ := Option.isSome_iff_exists.mp h4
        refine ⟨?_, _, _, .go h1 hr hb⟩
        have hb2 := b2 (w := goS) (.inl rfl) (dnk _ (List.mem_map.mpr ⟨dd, h1, rfl⟩))
        unfold whyD
        rw [show (Str.ofString "go" : Str) = goS from rfl, hb2, if_pos rfl]
        simp only [if_true]
        unfold whyGo
        rw [find_name dnd h1]
        simp [hb, h3]
      · obtain ⟨n, hn, rfl⟩ := List.mem_map.mp hd
        obtain ⟨j, h1, h2⟩ := placed_in hn
        refine ⟨?_, _, _, .lay h1 hr⟩
        have hb2 := b2 (w := layS) (.inr (.inr rfl)) (snk _ (List.mem_of_getElem? h1))
        have hp : placeOf x ps n = some z.name := place_at snd h1 h2
        unfold whyD
        rw [show (Str.ofString "lay" : Str) = layS from rfl, hb2, if_pos rfl]
        simp only [lg, ll, if_false]
        unfold whyLay
        rw [hp]
        simp
    · obtain ⟨n, hn, rfl⟩ := List.mem_map.mp hd
      split at hn
      · rename_i hc
        obtain ⟨j, h1, h2⟩ := placed_in hn
        refine ⟨?_, _, _, .lift h1 hz⟩
        have hb2 := b2 (w := liftS) (.inr (.inl rfl)) (snk _ (List.mem_of_getElem? h1))
        have hp : placeOf x ps n = some r := place_at snd h1 h2
        unfold whyD
        rw [show (Str.ofString "lift" : Str) = liftS from rfl, hb2, if_pos rfl]
        simp only [lf, if_false, if_true]
        unfold whyLift
        rw [hp]
        have : ¬ z.hands ≤ ((ps.count z.name : Nat) : Int) := by omega
        simp [this]
      · cases hn
  · rw [List.mem_singleton.mp hd]
    refine ⟨?_, _, _, .wait⟩
    unfold whyD
    rw [show deedB [Str.ofString "wait"] = true from by show decide (Str.ofString "wait" = Str.ofString "wait") = true; exact decide_eq_true rfl, if_pos rfl]
/-- behind a deed that can be done there is a stand -/
theorem step_stand {sr sd ss sw t : Nat} {x : HallH} {rs ps d rs' ps' : List Str} {z : WalkH} {r : Str} (ok : HallOk sr sd ss sw x) (sh : StandH x t rs ps) (hz : x.walkers[t]? = some z) (hr : rs[t]? = some r) (st : StepH x t rs ps d rs' ps') (hw : whyD x rs ps z r d = none) :
    StandH x ((t + 1) % x.walkers.length) rs' ps' := by
  have w1 := ok.w1
  have tn : (t + 1) % x.walkers.length < x.walkers.length := Nat.mod_lt _ (by omega)
  have na := names_apart ok.n1 (sh.rin r (List.mem_of_getElem? hr))
  cases st with
  | wait => exact ⟨tn, sh.rl, sh.rin, sh.pl, sh.pin, sh.cnt⟩
  | @go d r0 b hd hr0 hb =>
    refine ⟨tn, by rw [List.length_set, sh.rl], fun q hq => ?_, sh.pl, sh.pin, sh.cnt⟩
    rcases List.mem_or_eq_of_mem_set hq with hq | rfl
    · exact sh.rin q hq
    · have dk := ok.d4 d hd
      unfold farH at hb
      split at hb
      · cases hb
        exact dk.other
      · split at hb
        · cases hb
          exact dk.one
        · cases hb
  | @lay j s r0 hs hr0 =>
    have e : r0 = r := by rw [hr] at hr0; exact (Option.some.inj hr0).symm
    subst e
    refine ⟨tn, sh.rl, sh.rin, by rw [List.length_set, sh.pl], fun q hq => ?_, fun y hy => ?_⟩
    · rcases List.mem_or_eq_of_mem_set hq with hq | rfl
      · exact sh.pin q hq
      · exact .inl (sh.rin _ (List.mem_of_getElem? hr))
    · have jl := (List.getElem?_eq_some_iff.mp hs).1
      rw [List.length_map, ← sh.pl] at jl
      have ne : ¬ r0 = y.name := fun e => na (by rw [e]; exact List.mem_map.mpr ⟨y, hy, rfl⟩)
      have := sh.cnt y hy
      rw [List.count_set jl]
      simp only [beq_iff_eq, ne, if_false]
      omega
  | @lift j s z0 hs hz0 =>
    have e : z0 = z := by rw [hz] at hz0; exact (Option.some.inj hz0).symm
    subst e
    have nd := ok.n1
    unfold HallH.names at nd
    have snd : (x.stones.map Prod.fst).Nodup := (List.nodup_append.mp (List.nodup_append.mp (List.nodup_append.mp nd).2.1).2.1).1
    have wnd : (x.walkers.map WalkH.name).Nodup := (List.nodup_append.mp (List.nodup_append.mp nd).2.1).1
    have jl := (List.getElem?_eq_some_iff.mp hs).1
    rw [List.length_map, ← sh.pl] at jl
    have hp : placeOf x ps s = some ps[j] := place_at snd hs (List.getElem?_eq_getElem jl)
    have hb : deedB [liftS, s] = true := by
      unfold whyD at hw
      by_cases hb : deedB [Str.ofString "lift", s] = true
      · exact hb
      · rw [if_neg hb] at hw
        cases hw
    have lf : ¬ liftS = goS := by decide +kernel
    have hl : whyLift x ps z0 r s = none := by
      unfold whyD at hw
      rw [show (Str.ofString "lift" : Str) = liftS from rfl, hb, if_pos rfl] at hw
      simpa only [lf, if_false, if_true] using hw
    unfold whyLift at hl
    rw [hp] at hl
    simp only [] at hl
    split at hl
    · cases hl
    rename_i hpr
    split at hl
    · cases hl
    rename_i hc
    refine ⟨tn, sh.rl, sh.rin, by rw [List.length_set, sh.pl], fun q hq => ?_, fun y hy => ?_⟩
    · rcases List.mem_or_eq_of_mem_set hq with hq | rfl
      · exact sh.pin q hq
      · exact .inr (List.mem_map.mpr ⟨z0, List.mem_of_getElem? hz, rfl⟩)
    · have := sh.cnt y hy
      rw [List.count_set jl]
      by_cases e : z0.name = y.name
      · have ez : z0.hands = y.hands := by
          have : z0 = y := by
            obtain ⟨i, hi⟩ := List.mem_iff_getElem?.mp hy
            have h1 : (x.walkers.map WalkH.name)[t]? = some z0.name := by rw [List.getElem?_map, hz]; rfl
            have h2 : (x.walkers.map WalkH.name)[i]? = some y.name := by rw [List.getElem?_map, hi]; rfl
            by_cases ti : t = i
            · subst ti
              rw [hz] at hi
              exact Option.some.inj hi
            · exfalso
              rcases Nat.lt_or_gt_of_ne ti with h | h
              · exact first_at wnd h2 h h1 e
              · exact first_at wnd h1 h h2 e.symm
          rw [this]
        simp only [beq_iff_eq, e, if_true]
        rw [← e]
        omega
      · simp only [beq_iff_eq, e, if_false]
        omega
theorem place_in {x : HallH} {ps : List Str} {s q : Str} (h : placeOf x ps s = some q) : s ∈ placedL (x.stones.zip ps) q := by
  unfold placeOf at h
  obtain ⟨z, hz, e⟩ := Option.map_eq_some_iff.mp h
  have h1 := List.mem_of_find?_eq_some hz
  have h2 : z.1.1 = s := by
    have := List.find?_some hz
    exact of_decide_eq_true this
  unfold placedL
  exact List.mem_map.mpr ⟨z, List.mem_filter.mpr ⟨h1, decide_eq_true e⟩, h2⟩
/-- what can be done is told -/
theorem why_deeds {x : HallH} {rs ps d : List Str} {z : WalkH} {r : Str} (hl : d.length = 1 ∨ d.length = 2) (hw : whyD x rs ps z r d = none) : d ∈ deedsZ x rs ps z r := by
  unfold whyD at hw
  by_cases hb : deedB d = true
  · rw [if_pos hb] at hw
    match d, hl, hb, hw with
    | [w], _, hb, _ =>
      have e : w = Str.ofString "wait" := of_decide_eq_true hb
      subst e
      unfold deedsZ deedsOf
      exact List.mem_append_right _ (List.mem_singleton.mpr rfl)
    | [w, n], _, hb, hw =>
      have hw' : w = goS ∨ w = liftS ∨ w = layS := by
        have h1 := (Bool.and_eq_true_iff.mp hb).1
        obtain ⟨u, hu1, hu2⟩ := List.any_eq_true.mp h1
        have e : u = w := of_decide_eq_true hu2
        subst e
        simpa using hu1
      have lg : ¬ layS = goS := by decide +kernel
      have ll : ¬ layS = liftS := by decide +kernel
      have lf : ¬ liftS = goS := by decide +kernel
      unfold deedsZ deedsOf
      rcases hw' with rfl | rfl | rfl
      · simp only [if_true] at hw
        unfold whyGo at hw
        cases hf : x.doors.find? (fun d => decide (d.name = n)) with
        | none => rw [hf] at hw; cases hw
        | some dd =>
          rw [hf] at hw
          simp only [] at hw
          have h1 := List.mem_of_find?_eq_some hf
          have h2 : dd.name = n := by
            have := List.find?_some hf
            exact of_decide_eq_true this
          subst h2
          split at hw
          · cases hw
          rename_i hs
          split at hw
          · rename_i ho
            refine List.mem_append_left _ (List.mem_append_left _ (List.mem_append_left _ (List.mem_map.mpr ⟨dd.name, ?_, rfl⟩)))
            unfold goL
            refine List.mem_map.mpr ⟨dd, List.mem_filter.mpr ⟨h1, ?_⟩, rfl⟩
            rw [ho, Bool.true_and]
            cases hfr : farH dd r with
            | none => rw [hfr] at hs; exact absurd rfl hs
            | some b => rfl
          · cases hw
      · simp only [lf, if_false, if_true] at hw
        unfold whyLift at hw
        cases hp : placeOf x ps n with
        | none => rw [hp] at hw; cases hw
        | some q =>
          rw [hp] at hw
          simp only [] at hw
          split at hw
          · cases hw
          rename_i hq
          have hq : q = r := Decidable.of_not_not hq
          split at hw
          · cases hw
          rename_i hc
          refine List.mem_append_left _ (List.mem_append_right _ (List.mem_map.mpr ⟨n, ?_, rfl⟩))
          rw [if_pos (by omega), ← hq]
          exact place_in hp
      · simp only [lg, ll, if_false] at hw
        unfold whyLay at hw
        cases hp : placeOf x ps n with
        | none => rw [hp] at hw; cases hw
        | some q =>
          rw [hp] at hw
          simp only [] at hw
          split at hw
          · cases hw
          rename_i hq
          have hq : q = z.name := Decidable.of_not_not hq
          refine List.mem_append_left _ (List.mem_append_left _ (List.mem_append_right _ (List.mem_map.mpr ⟨n, ?_, rfl⟩)))
          rw [← hq]
          exact place_in hp
  · rw [if_neg hb] at hw
    cases hw
end Wd

set_option Elab.async false
set_option linter.all false
set_option maxRecDepth 100000
set_option maxHeartbeats 4000000
/-! Doors that stand open ahead, without what was shut and with what was opened, are those behind. -/
namespace Wd
open PySem PySem.Spec PyProof.Rows L2
def offL (as bs : List Str) : List Str := as.filter fun a => decide (a ∉ bs)
theorem offL_len (as bs : List Str) : (offL as bs).length ≤ as.length := List.length_filter_le _ _
theorem offL_mem {as bs : List Str} {a : Str} : a ∈ offL as bs ↔ a ∈ as ∧ a ∉ bs := by
  unfold offL
  rw [List.mem_filter, decide_eq_true_iff]
theorem offL_self (as : List Str) : offL as as = [] := List.filter_eq_nil_iff.mpr fun a ha h => (of_decide_eq_true h) ha
theorem swing_perm {as bs : List Str} (ha : as.Nodup) (hb : bs.Nodup) : (offL as (offL as bs) ++ offL bs as).Perm bs := by
  refine (List.perm_ext_iff_of_nodup ?_ hb).mpr fun c => ?_
  · refine List.nodup_append.mpr ⟨List.Nodup.sublist List.filter_sublist ha, List.Nodup.sublist List.filter_sublist hb, fun x hx y hy e => ?_⟩
    subst e
    exact (offL_mem.mp hy).2 (offL_mem.mp hx).1
  · rw [List.mem_append, offL_mem, offL_mem, offL_mem]
    by_cases h1 : c ∈ as <;> by_cases h2 : c ∈ bs <;> simp [h1, h2]
def openL (x : HallH) (rs ps : List Str) : List Str := (x.doors.filter (openB (borneH x rs ps none))).map DoorH.name
theorem openL_sub (x : HallH) (rs ps : List Str) : (openL x rs ps).Sublist (x.doors.map DoorH.name) := List.Sublist.map _ List.filter_sublist
end Wd

set_option Elab.async false
set_option linter.all false
set_option maxRecDepth 100000
set_option maxHeartbeats 4000000
/-! x in xs, x not in xs: xs a list or a tuple of texts, x of any kind. -/
namespace Wd
open PySem PySem.Spec PyProof.Rows L2 PySem.SeqAt
section
variable {A : Around} {s : Shared}
theorem str_declines_dict (b : Str) (u : Tok) (l : Addr) (c : Value) (es : Array DictEntry) (n : Nat) (dd : Option Addr) (sl : Array (Option Value)) :
    Meets (Builtin.«str.__eq__» ⟨[.str b u, .ref l], []⟩) (fun _ R s => s.heap.get? l = some { cls := c, dict := dd, data := .dict es n, slots := sl } ∧ R (.ok (.ret .notImplemented)) s) :=
  .of_wp fun prog w A R s h => by obtain ⟨hp, g, d, tk, os⟩ := s; obtain ⟨hl, h⟩ := h; wp_walk using wpAny_loadPart' hl, wpAny_load hl; exact ⟨_, rfl, h⟩
theorem dict_declines_str (l : Addr) (es : Array DictEntry) (n : Nat) (dd : Option Addr) (sl : Array (Option Value)) (b : Str) (u : Tok) :
    Meets (Builtin.«dict.__eq__» ⟨[.ref l, .str b u], []⟩) (fun _ R s => s.heap.get? l = some { cls := .type "dict", dict := dd, data := .dict es n, slots := sl } ∧ R (.ok (.ret .notImplemented)) s) :=
  .of_wp fun prog w A R s h => by obtain ⟨hp, g, d, tk, os⟩ := s; obtain ⟨hl, h⟩ := h; have f1 := F.sub_str_dict; wp_walk using wpAny_loadPart' hl; exact ⟨_, rfl, h⟩
theorem rcat_str_dict {l : Addr} {o : Obj} {es : Array DictEntry} {n : Nat} (b : Str) (u : Tok) (ho : s.heap.get? l = some o) (hx : o.cls = .type "dict") (hd : o.data = .dict es n) (hu : A.units < cLine) : RcAt A s (.str b u) (.ref l) false := fun prog w E Q h => by
  obtain ⟨cls, dd, data, sl⟩ := o
  simp only at hx hd
  subst hx hd
  exact rc_eq_decline_or (k := false) (typeIs_str s b u) ⟨_, ho, rfl⟩ (by decide) F.sub_dict_str F.slot_str_eq F.slot_dict_eq_refl
    (fun _ hq => call_meets F.slot_str_eq (typeIs_str s b u) F.entry_str_eq (F.args_str_eq_2 _ _) (str_declines_dict b u l (.type "dict") es n dd sl) ⟨ho, hq⟩)
    (fun _ hq => call_meets F.slot_dict_eq_refl ⟨_, ho, rfl⟩ F.entry_dict_eq (F.args_dict_eq_2 _ _) (dict_declines_str l es n dd sl b u) ⟨ho, hq⟩)
    (fun _ hq => wpAny_of_eq (rfl : isSame (.str b u) (.ref l) = pure false) hq) (.inr hu) h
theorem eqat_str_dict {l : Addr} {o : Obj} {es : Array DictEntry} {n : Nat} (b : Str) (u : Tok) (ho : s.heap.get? l = some o) (hx : o.cls = .type "dict") (hd : o.data = .dict es n) (hu : A.units < cLine) : EqAt A s (.str b u) (.ref l) false := fun prog w E Q h => by
  unfold eqBool
  refine wpAny_holding (wpAny_ite_split (fun hab => absurd (eq_of_beq hab) nofun) fun _ => wpAny_bind ?_)
  exact rcat_str_dict b u ho hx hd hu prog w E _ (wpAny_truthy_bool h)
end
/-- what x is, told by which texts it is equal to -/
inductive HitV (K : PySem.W.Frag) (H : Hp) : V → (Str → Bool) → Prop
  | str (a : Str) : HitV K H (.str a) (fun y => decide (y = a))
  | non : HitV K H .non fun _ => false
  | bl (b : Bool) : HitV K H (.bl b) fun _ => false
  | int (i : Int) : HitV K H (.int i) fun _ => false
  | lst {p : Addr} {xs : List V} : SqL K H p xs → HitV K H (.ref p) fun _ => false
  | tup {p : Addr} {xs : List V} : SqT K H p xs → HitV K H (.ref p) fun _ => false
  | dK {p : Addr} {kvs : List (Key × V)} : Rd H p (.dK kvs) → HitV K H (.ref p) fun _ => false
def hitE (hit : Str → Bool) : Value → Bool
  | .str y _ => hit y
  | _ => false
section
variable {X : Cx} {pins : List (Addr × Obj)} {σ : L2.St} {H : Hp} {s : Shared}
theorem dict_obj {p : Addr} {kvs : List (Key × V)} (I : Inv X pins σ H s) (h : Rd H p (.dK kvs)) : ∃ (o : Obj) (es : Array DictEntry) (n : Nat), s.heap.get? p = some o ∧ o.cls = .type "dict" ∧ o.data = .dict es n := by
  have z : ObjOk X.prog X.w H s.heap p (.dK kvs) := by
    rcases h with h | ⟨o, h⟩
    · exact I.hok p _ h
    · exact (I.hok p _ h).2
  obtain ⟨_, _, vs, _, hdo⟩ := z
  obtain ⟨o, es, ep, e1, e2, e3, _⟩ := hdo
  exact ⟨o, es, ep, e1, e2.1, e3⟩
theorem hit_eq {A : Around} {x : V} {v : Value} {hit : Str → Bool} (I : Inv X pins σ H s) (hu : A.units < cLine) (h : HitV X.K H x hit) (r : RelV x v) (y : Str) (t : Tok) : EqAt A s (.str y t) v (hit y) := by
  cases h with
  | str a =>
    obtain ⟨t2, rfl⟩ := r
    have e := EqAt.str_str (A := A) (s := s) y t a t2
    have e2 : (y == a) = decide (y = a) := rfl
    rw [e2] at e
    exact e
  | non =>
    obtain rfl : v = .none := r
    exact EqAt.str_none y t
  | bl b =>
    obtain rfl : v = .bool b := r
    exact EqAt.str_bool y t b
  | int i =>
    obtain ⟨t2, rfl⟩ := r
    exact EqAt.str_int y t i t2
  | lst hs =>
    obtain rfl : v = .ref _ := r
    obtain ⟨its, _, pl, _⟩ := I.list hs
    exact EqAt.str_list y t pl.isList hu
  | tup hs =>
    obtain rfl : v = .ref _ := r
    obtain ⟨its, _, pl, _⟩ := I.tuple hs
    exact EqAt.str_tuple y t pl hu
  | dK hd =>
    obtain rfl : v = .ref _ := r
    obtain ⟨o, es, n, e1, e2, e3⟩ := dict_obj I hd
    exact eqat_str_dict y t e1 e2 e3 hu
theorem hit_any {hit : Str → Bool} : ∀ {us : List Value} {ns : List Str}, Vals (ns.map V.str) us → us.any (hitE hit) = ns.any hit
  | [], [], .nil => rfl
  | u :: us, n :: ns, .cons h r => by
    obtain ⟨t, rfl⟩ := h
    rw [List.any_cons, List.any_cons, hit_any r]
    rfl
theorem hit_mem {A : Around} {x : V} {v : Value} {hit : Str → Bool} (I : Inv X pins σ H s) (hu : A.units < cLine) (h : HitV X.K H x hit) (rx : RelV x v) : ∀ {us : List Value} {ns : List Str}, Vals (ns.map V.str) us → ∀ y ∈ us, EqAt A s y v (hitE hit y)
  | u :: us, n :: ns, .cons r q, y, hy => by
    rcases List.mem_cons.mp hy with rfl | hy
    · obtain ⟨t, rfl⟩ := r
      exact hit_eq I hu h rx n t
    · exact hit_mem I hu h rx q y hy
/-- x in xs | x not in xs -/
def rInT (neg : Bool) (K : PySem.W.Frag) : R2 := fun x y H Q => ∃ (p : Addr) (ns : List Str) (hit : Str → Bool), y = .ref p ∧ (SqL K H p (ns.map V.str) ∨ SqT K H p (ns.map V.str)) ∧ HitV K H x hit ∧ Q (.bl (if neg then !ns.any hit else ns.any hit)) H
theorem op_inT {K : PySem.W.Frag} (hu : X.A.units + 64 < cLine) (hK : X.K = K := by rfl) : OpR X (compareOp .In) (rInT false K) := by
  subst hK
  intro pins s σ H x y v u Q I rx ry h
  obtain ⟨p, ns, hit, rfl, hs, hh, q⟩ := h
  obtain rfl : u = .ref p := ry
  have hu1 : X.A.in1.units < cLine := by
    have : X.A.in1.units = X.A.units + 1 := rfl
    omega
  rcases hs with hs | hs
  · obtain ⟨its, rv, pl, _⟩ := I.list hs
    refine in_listAt (hitE hit) pl.isList (fun y hy => hit_mem I hu1 hh rx rv y (by simpa using hy)) ⟨.bl _, H, I, rfl, ?_⟩
    rw [show its.toArray.any (hitE hit) = its.any (hitE hit) from by simp, hit_any rv]
    exact q
  · obtain ⟨its, rv, pl, _⟩ := I.tuple hs
    refine in_tupleAt (hitE hit) pl (fun y hy => hit_mem I hu1 hh rx rv y (by simpa using hy)) ⟨.bl _, H, I, rfl, ?_⟩
    rw [show its.toArray.any (hitE hit) = its.any (hitE hit) from by simp, hit_any rv]
    exact q
theorem op_notInT {K : PySem.W.Frag} (hu : X.A.units + 64 < cLine) (hK : X.K = K := by rfl) : OpR X (compareOp .NotIn) (rInT true K) := by
  subst hK
  intro pins s σ H x y v u Q I rx ry h
  obtain ⟨p, ns, hit, rfl, hs, hh, q⟩ := h
  obtain rfl : u = .ref p := ry
  have hu1 : X.A.in1.units < cLine := by
    have : X.A.in1.units = X.A.units + 1 := rfl
    omega
  rcases hs with hs | hs
  · obtain ⟨its, rv, pl, _⟩ := I.list hs
    refine notIn_listAt (hitE hit) pl.isList (fun y hy => hit_mem I hu1 hh rx rv y (by simpa using hy)) ⟨.bl _, H, I, rfl, ?_⟩
    rw [show its.toArray.any (hitE hit) = its.any (hitE hit) from by simp, hit_any rv]
    exact q
  · obtain ⟨its, rv, pl, _⟩ := I.tuple hs
    refine notIn_tupleAt (hitE hit) pl (fun y hy => hit_mem I hu1 hh rx rv y (by simpa using hy)) ⟨.bl _, H, I, rfl, ?_⟩
    rw [show its.toArray.any (hitE hit) = its.any (hitE hit) from by simp, hit_any rv]
    exact q
end
theorem any_names {ns : List Str} {r : Str} (h : r ∈ ns) : ns.any (fun y => decide (y = r)) = true := List.any_eq_true.mpr ⟨r, h, decide_eq_true rfl⟩
theorem HitV.same {K : PySem.W.Frag} {H H' : Hp} {x : V} {hit : Str → Bool} (s : Same H H') (h : HitV K H x hit) : HitV K H' x hit := by
  cases h with
  | str a => exact .str a
  | non => exact .non
  | bl b => exact .bl b
  | int i => exact .int i
  | lst e => exact .lst (sqL_at (fun o => s _ o) e)
  | tup e => exact .tup (same_sqT s e)
  | dK e => exact .dK (e.elim (fun e => .inl (s _ _ e)) fun ⟨o, e⟩ => .inr ⟨o, s _ _ e⟩)
end Wd

set_option Elab.async false
set_option linter.all false
set_option maxRecDepth 100000
set_option maxHeartbeats 4000000
/-! [x for x in xs if x not in ys] of texts; lists of texts compared; a stand past a list that changes. -/
namespace Wd
open PySem PySem.Spec PyProof.Rows L2
theorem pair_rising : ∀ (p : Str) (l : List Str), (p :: l).Pairwise leT → risingS p l = true
  | _, [], _ => rfl
  | p, x :: l, h => by
    obtain ⟨h1, h2⟩ := List.pairwise_cons.mp h
    have := ltCps_le.mpr (h1 x List.mem_cons_self)
    simp only [risingS, this, pair_rising x l h2, Bool.not_false, Bool.and_self]
theorem pair_sorted : ∀ {l : List Str}, l.Pairwise leT → sortedS l = true
  | [], _ => rfl
  | p :: l, h => pair_rising p l h
theorem any_memO {a : Str} {bs : List Str} : bs.any (fun y => decide (y = a)) = decide (a ∈ bs) := by
  rw [Bool.eq_iff_iff, List.any_eq_true, decide_eq_true_iff]
  constructor
  · rintro ⟨y, hy, e⟩
    have := of_decide_eq_true e
    rw [← this]
    exact hy
  · exact fun h => ⟨a, h, decide_eq_true rfl⟩
theorem lc_off {K : PySem.W.Frag} {σ : L2.St} {i j e : Nat} {H : Hp} {Q : VK} {l1 l2 : Addr} {xs ys : List Str} (hi : σ[i]? = some (some (.ref l1))) (hj : σ[j]? = some (some (.ref l2))) (ne : j ≠ e) (he : e < σ.length) (e1 : H l1 = some (.lst (xs.map V.str))) (e2 : H l2 = some (.lst (ys.map V.str))) (h : xs.length ≤ 60)
    (q : ∀ D Z, Same H Z → H D = none → Z D = some (.lst ((offL xs ys).map V.str)) → Q (.ref D) Z) : tLc (iList K (tVar i)) (gName e) (tTest (tOp (rInT true K) (tVar e) (tVar j))) (tVar e) [e] σ H Q := by
  refine ⟨.ref l1, hi, l1, rfl, ⟨_, .inl (.inl e1)⟩, fun D nD => ?_⟩
  refine lc_it (walk_list (a := l1) (xs := xs.map V.str)) (fun k Z => Same H Z ∧ Z D = some (.lst ((offL (xs.take k) ys).map V.str))) ⟨same_new nD, upd_same⟩ (fun k Z _ pv => .inl (.inl (pv.1 _ _ e1))) (fun k u Z Z' hk pv hy => ?_) (fun Z pv => ?_)
  · obtain ⟨sZ, z1⟩ := pv
    obtain ⟨rfl, hv⟩ := hy
    rw [List.getElem?_map] at hv
    obtain ⟨nm, hn, rfl⟩ := Option.map_eq_some_iff.mp hv
    have g1 : ((wipe σ [e]).set e (some (V.str nm)))[e]? = some (some (V.str nm)) := by
      show ((σ.set e none).set e (some (V.str nm)))[e]? = _
      rw [List.getElem?_set_self (by rw [List.length_set]; exact he)]
    have g2 : ((wipe σ [e]).set e (some (V.str nm)))[j]? = some (some (.ref l2)) := by
      show ((σ.set e none).set e (some (V.str nm)))[j]? = _
      rw [List.getElem?_set_ne (Ne.symm ne), List.getElem?_set_ne (Ne.symm ne)]
      exact hj
    refine ⟨?_, .str nm, g1, .ref l2, g2, l2, ys, _, rfl, .inl (.inl (.inl (sZ _ _ e2))), .str nm, _, rfl, ?_⟩
    · show ((σ.set e none).set e (some (V.str nm))).set e none = σ.set e none
      rw [List.set_set, List.set_set]
    rw [any_memO]
    have hl : (offL (xs.take k) ys).length ≤ 60 := Nat.le_trans (offL_len _ _) (by rw [List.length_take]; omega)
    have off : offL (xs.take (k + 1)) ys = offL (xs.take k) ys ++ if nm ∈ ys then [] else [nm] := by
      unfold offL
      rw [take_snoc hn, List.filter_append]
      congr 1
      by_cases hin : nm ∈ ys <;> simp [hin]
    rw [off, List.map_append]
    by_cases hin : nm ∈ ys
    · rw [if_pos hin, List.map_nil, List.append_nil, decide_eq_true hin]
      exact iteF ⟨sZ, z1⟩
    · rw [if_neg hin, decide_eq_false hin]
      exact iteT ⟨.str nm, g1, _, z1, by rw [List.length_map, sizeLine_eq]; omega, same_mut sZ nD, upd_same⟩
  · obtain ⟨sZ, z1⟩ := pv
    rw [List.length_map, List.take_length] at z1
    exact q D Z sZ nD z1
theorem dp_strs {K : PySem.W.Frag} {H : Hp} : ∀ xs : List Str, DpAll K H (xs.map V.str) (xs.map PyData.str)
  | [] => .nil
  | x :: xs => .cons (.str x) (dp_strs xs)
theorem shaped_strs {xs : List Str} (h : ∀ s ∈ xs, NameOk s) : SeqAt.shaped (.list (xs.map PyData.str)) = true := shaped_list (lay_strs h) (by rw [depth_strs]; omega)
theorem shaped_tup {xs : List Str} (h : ∀ s ∈ xs, NameOk s) : SeqAt.shaped (.tuple (xs.map PyData.str)) = true := by
  show (PyData.canLay0 _ && decide _) = true
  rw [Bool.and_eq_true]
  refine ⟨by simp only [PyData.canLay0]; exact lay_strs h, decide_eq_true ?_⟩
  have := depth_strs xs
  simp only [PyData.depth]
  omega
theorem ne_strs {K : PySem.W.Frag} {H : Hp} {a b : Addr} {xs : List Str} {Q : VK} (ea : H a = some (.lst (xs.map V.str))) (eb : H b = some (.lst (xs.map V.str))) (h : ∀ s ∈ xs, NameOk s) (q : Q (.bl false) H) : rNeX K (.ref a) (.ref b) H Q := by
  refine .inr ⟨.list (xs.map .str), .list (xs.map .str), .lst (.inl (.inl ea)) (dp_strs xs), .lst (.inl (.inl eb)) (dp_strs xs), shaped_strs h, shaped_strs h, ?_⟩
  rw [show PyData.eqv (.list (xs.map PyData.str)) (.list (xs.map PyData.str)) = true from by simp [PyData.eqv, eqv_strs]]
  exact q
/-- (ajar, shut) != ([], []) -/
theorem ne_none {K : PySem.W.Frag} {H : Hp} {u v la lb ea eb : Addr} {Q : VK} (hu : SqT K H u [.ref la, .ref lb]) (hv : SqT K H v [.ref ea, .ref eb]) (ha : H la = some (.lst [])) (hb : H lb = some (.lst [])) (h1 : H ea = some (.lst [])) (h2 : H eb = some (.lst [])) (q : Q (.bl false) H) : rNeX K (.ref u) (.ref v) H Q := by
  refine .inr ⟨.tuple [.list [], .list []], .tuple [.list [], .list []], .tup hu (.cons (.lst (.inl (.inl ha)) .nil) (.cons (.lst (.inl (.inl hb)) .nil) .nil)), .tup hv (.cons (.lst (.inl (.inl h1)) .nil) (.cons (.lst (.inl (.inl h2)) .nil) .nil)), by decide +kernel, by decide +kernel, ?_⟩
  rw [show PyData.eqv (.tuple [.list [], .list []]) (.tuple [.list [], .list []]) = true from by simp [PyData.eqv, PyData.eqvAll]]
  exact q
theorem sqT_off {K : PySem.W.Frag} {H : Hp} {l : Addr} {zs xs : List V} {o : HO} {a : Addr} (e : H l = some (.lst zs)) (h : SqT K H a xs) : SqT K (upd H l o) a xs := by
  rcases h with (h | ⟨u, h⟩) | h
  · exact .inl (.inl (by rw [upd_ne (fun z => by rw [z, e] at h; cases h)]; exact h))
  · exact .inl (.inr ⟨u, by rw [upd_ne (fun z => by rw [z, e] at h; cases h)]; exact h⟩)
  · exact .inr h
theorem StandAt.off {K : PySem.W.Frag} {H : Hp} {v : V} {t : Nat} {rs ps : List Str} {l : Addr} {zs : List V} {o : HO} (e : H l = some (.lst zs)) (h : StandAt K H v t rs ps) : StandAt K (upd H l o) v t rs ps :=
  h.move (fun _ _ z => sqT_off e z) fun a xs z => z.upd (z.ne e)
theorem eqvAll_strs : ∀ (xs ys : List Str), PyData.eqvAll (xs.map PyData.str) (ys.map PyData.str) = decide (xs = ys)
  | [], [] => rfl
  | [], _ :: _ => rfl
  | _ :: _, [] => rfl
  | x :: xs, y :: ys => by
    rw [List.map_cons, List.map_cons]
    simp only [PyData.eqvAll, PyData.eqv, eqvAll_strs xs ys]
    rw [Bool.eq_iff_iff]
    simp
end Wd

set_option Elab.async false
set_option linter.all false
set_option maxRecDepth 100000
set_option maxHeartbeats 4000000
/-! What a deed touches, as data: what rooms bear behind it. -/
namespace Wd
open PySem PySem.Spec PyProof.Rows L2
theorem addAt_at (g : Str → Int) (r q : Str) (h : Int) : addAt g r h q = g q + if r = q then h else 0 := by
  unfold addAt
  by_cases e : q = r
  · subst e
    simp
  · have : ¬ r = q := fun z => e z.symm
    simp [e, this]
theorem folkW_sum (q : Str) : ∀ (zs : List (WalkH × Str)) (g : Str → Int), folkW none zs g q = g q + (zs.map fun z => if z.2 = q then z.1.heft else 0).sum
  | [], g => by
    show g q = g q + 0
    omega
  | z :: zs, g => by
    have e : folkW none (z :: zs) g = folkW none zs (addAt g z.2 z.1.heft) := rfl
    rw [e, folkW_sum q zs, addAt_at, List.map_cons, List.sum_cons]
    omega
theorem stonesW_sum (wh : Str → Str) (q : Str) : ∀ (zs : List ((Str × Int) × Str)) (g : Str → Int), stonesW none wh zs g q = g q + (zs.map fun z => if wh z.2 = q then z.1.2 else 0).sum
  | [], g => by
    show g q = g q + 0
    omega
  | z :: zs, g => by
    have e : stonesW none wh (z :: zs) g = stonesW none wh zs (addAt g (wh z.2) z.1.2) := rfl
    rw [e, stonesW_sum wh q zs, addAt_at, List.map_cons, List.sum_cons]
    omega
theorem borne_sum (x : HallH) (rs ps : List Str) (q : Str) : borneH x rs ps none q = ((x.walkers.zip rs).map fun z => if z.2 = q then z.1.heft else 0).sum + ((x.stones.zip ps).map fun z => if whereH x rs z.2 = q then z.1.2 else 0).sum := by
  unfold borneH
  rw [stonesW_sum, folkW_sum]
  omega
theorem zip_set_sum {α : Type} (f : α × Str → Int) (b : Str) : ∀ {ws : List α} {rs : List Str} {t : Nat} {w : α} {r : Str}, ws[t]? = some w → rs[t]? = some r → ((ws.zip (rs.set t b)).map f).sum = ((ws.zip rs).map f).sum - f (w, r) + f (w, b)
  | w :: ws, r :: rs, 0, w', r', h1, h2 => by
    cases h1
    cases h2
    simp only [List.set_cons_zero, List.zip_cons_cons, List.map_cons, List.sum_cons]
    omega
  | w :: ws, r :: rs, t + 1, w', r', h1, h2 => by
    have ih := zip_set_sum f b (ws := ws) (rs := rs) (t := t) h1 h2
    simp only [List.set_cons_succ, List.zip_cons_cons, List.map_cons, List.sum_cons]
    omega
theorem whereL_set {b p : Str} : ∀ {ws : List WalkH} {rs : List Str} {t : Nat} {z : WalkH}, (ws.map WalkH.name).Nodup → rs.length = ws.length → ws[t]? = some z → whereL (ws.zip (rs.set t b)) p = if p = z.name then some b else whereL (ws.zip rs) p
  | w :: ws, r :: rs, 0, z, n, l, h => by
    cases h
    simp only [List.set_cons_zero, List.zip_cons_cons, whereL]
    by_cases e : w.name = p
    · rw [if_pos e, if_pos e.symm]
    · rw [if_neg e, if_neg fun c => e c.symm, if_neg e]
  | w :: ws, r :: rs, t + 1, z, n, l, h => by
    rw [List.map_cons] at n
    obtain ⟨n1, n2⟩ := List.nodup_cons.mp n
    have ih := whereL_set (b := b) (p := p) (ws := ws) (rs := rs) (t := t) n2 (by simpa using l) h
    have zin : z.name ∈ ws.map WalkH.name := List.mem_map.mpr ⟨z, List.mem_of_getElem? h, rfl⟩
    simp only [List.set_cons_succ, List.zip_cons_cons, whereL]
    by_cases e : w.name = p
    · rw [if_pos e, if_pos e, if_neg fun c => n1 (by rw [e, c]; exact zin)]
    · rw [if_neg e, if_neg e]
      exact ih
theorem where_set {x : HallH} {rs : List Str} {t : Nat} {z : WalkH} {b p : Str} (n : (x.walkers.map WalkH.name).Nodup) (l : rs.length = x.walkers.length) (h : x.walkers[t]? = some z) : whereH x (rs.set t b) p = if p = z.name then b else whereH x rs p := by
  unfold whereH
  rw [whereL_set n l h]
  by_cases e : p = z.name
  · rw [if_pos e, if_pos e]
    rfl
  · rw [if_neg e, if_neg e]
theorem where_own {x : HallH} {rs : List Str} {t : Nat} {z : WalkH} {r : Str} (n : (x.walkers.map WalkH.name).Nodup) (l : rs.length = x.walkers.length) (h : x.walkers[t]? = some z) (hr : rs[t]? = some r) : whereH x rs z.name = r := by
  have e : (rs.set t r) = rs := by
    apply List.ext_getElem?
    intro i
    by_cases c : t = i
    · subst c
      rw [List.getElem?_set_self (List.getElem?_eq_some_iff.mp hr).1, hr]
    · rw [List.getElem?_set_ne c]
  rw [← e, where_set n l h, if_pos rfl]
theorem where_room {x : HallH} {rs : List Str} {q : Str} (h : q ∉ x.walkers.map WalkH.name) : whereH x rs q = q := by
  unfold whereH
  cases e : whereL (x.walkers.zip rs) q with
  | none => rfl
  | some r =>
    exfalso
    have : ∀ {zs : List (WalkH × Str)}, whereL zs q = some r → ∃ z ∈ zs, z.1.name = q := by
      intro zs
      induction zs with
      | nil => intro h; cases h
      | cons y zs ih =>
        intro h
        unfold whereL at h
        by_cases c : y.1.name = q
        · exact ⟨y, List.mem_cons_self, c⟩
        · rw [if_neg c] at h
          obtain ⟨z, hz, e⟩ := ih h
          exact ⟨z, List.mem_cons_of_mem _ hz, e⟩
    obtain ⟨z, hz, e2⟩ := this e
    exact h (by rw [← e2]; exact List.mem_map.mpr ⟨z.1, (List.of_mem_zip (a := z.1) (b := z.2) hz).1, rfl⟩)
/-- the stones that a walker carries, their hefts -/
def loadL (x : HallH) (ps : List Str) (n : Str) : Int := ((x.stones.zip ps).map fun y => if y.2 = n then y.1.2 else 0).sum
theorem stones_moved (wh wh' : Str → Str) (n r b q : Str) (hn : wh n = r) (hw : ∀ p, wh' p = if p = n then b else wh p) : ∀ zs : List ((Str × Int) × Str), (zs.map fun z => if wh' z.2 = q then z.1.2 else 0).sum =
    (zs.map fun z => if wh z.2 = q then z.1.2 else 0).sum + (if b = q then (zs.map fun y => if y.2 = n then y.1.2 else 0).sum else 0) - (if r = q then (zs.map fun y => if y.2 = n then y.1.2 else 0).sum else 0)
  | [] => by simp
  | z :: zs => by
    have ih := stones_moved wh wh' n r b q hn hw zs
    simp only [List.map_cons, List.sum_cons]
    rw [ih, hw]
    by_cases c : z.2 = n
    · rw [if_pos c, if_pos c, c, hn]
      by_cases c1 : b = q <;> by_cases c2 : r = q <;> simp only [c1, c2, if_true, if_false] <;> omega
    · rw [if_neg c, if_neg c]
      by_cases c1 : b = q <;> by_cases c2 : r = q <;> simp only [c1, c2, if_true, if_false] <;> omega
theorem borne_go {x : HallH} {rs ps : List Str} {t : Nat} {z : WalkH} {r b : Str} (n : (x.walkers.map WalkH.name).Nodup) (l : rs.length = x.walkers.length) (h : x.walkers[t]? = some z) (hr : rs[t]? = some r) (q : Str) :
    borneH x (rs.set t b) ps none q - borneH x rs ps none q = (if b = q then z.heft + loadL x ps z.name else 0) - (if r = q then z.heft + loadL x ps z.name else 0) := by
  rw [borne_sum, borne_sum, zip_set_sum _ b h hr, stones_moved (whereH x rs) (whereH x (rs.set t b)) z.name r b q (where_own n l h hr) (fun p => where_set n l h)]
  show _ - (if r = q then z.heft else 0) + (if b = q then z.heft else 0) + (_ + (if b = q then loadL x ps z.name else 0) - (if r = q then loadL x ps z.name else 0)) - _ = _
  by_cases c1 : b = q <;> by_cases c2 : r = q <;> simp only [c1, c2, if_true, if_false] <;> omega
theorem borne_put {x : HallH} {rs ps : List Str} {j : Nat} {s : Str × Int} {o p : Str} (h : x.stones[j]? = some s) (hp : ps[j]? = some o) (e : whereH x rs p = whereH x rs o) (q : Str) : borneH x rs (ps.set j p) none q = borneH x rs ps none q := by
  rw [borne_sum, borne_sum, zip_set_sum _ p h hp]
  show _ + (_ - (if whereH x rs o = q then s.2 else 0) + (if whereH x rs p = q then s.2 else 0)) = _
  rw [e]
  omega
def unlikeL (xs ys : List Str) : List Nat := (List.range xs.length).filter fun k => decide (xs[k]? ≠ ys[k]?)
theorem unlike_same (xs : List Str) : unlikeL xs xs = [] := by
  unfold unlikeL
  rw [List.filter_eq_nil_iff]
  intro k _
  simp
theorem range_one (t : Nat) : ∀ n, (List.range n).filter (fun k => decide (k = t)) = if t < n then [t] else []
  | 0 => rfl
  | n + 1 => by
    rw [List.range_succ, List.filter_append, range_one t n]
    by_cases h : t < n
    · rw [if_pos h, if_pos (by omega)]
      have : ¬ n = t := by omega
      simp [this]
    · rw [if_neg h]
      by_cases e : n = t
      · subst e
        simp
      · rw [if_neg (by omega)]
        simp [e]
theorem unlike_set {xs : List Str} {t : Nat} {r b : Str} (h : xs[t]? = some r) (ne : b ≠ r) : unlikeL xs (xs.set t b) = [t] := by
  have tl := (List.getElem?_eq_some_iff.mp h).1
  unfold unlikeL
  have e : (List.range xs.length).filter (fun k => decide (xs[k]? ≠ (xs.set t b)[k]?)) = (List.range xs.length).filter fun k => decide (k = t) := by
    refine List.filter_congr fun k _ => ?_
    rw [decide_eq_decide]
    by_cases c : t = k
    · subst c
      rw [List.getElem?_set_self tl, h]
      constructor
      · intro _; rfl
      · intro _ z
        exact ne (Option.some.inj z).symm
    · rw [List.getElem?_set_ne c]
      constructor
      · intro z; exact absurd rfl z
      · intro z; exact absurd z.symm c
  rw [e, range_one, if_pos tl]
theorem dp_intsT {K : PySem.W.Frag} {H : Hp} : ∀ xs : List Int, DpAll K H (xs.map V.int) (xs.map PyData.int)
  | [] => .nil
  | x :: xs => .cons (.int x) (dp_intsT xs)
theorem lay_intsT : ∀ xs : List Int, PyData.canLayAll0 (xs.map PyData.int) = true ∧ PyData.depthAll (xs.map PyData.int) = 0
  | [] => ⟨rfl, by simp [PyData.depthAll]⟩
  | x :: xs => by
    obtain ⟨h1, h2⟩ := lay_intsT xs
    rw [List.map_cons]
    refine ⟨by simp only [PyData.canLayAll0, PyData.canLay0, h1, Bool.and_self], ?_⟩
    simp only [PyData.depthAll, PyData.depth, h2]
    decide
theorem shaped_intsT (xs : List Int) : SeqAt.shaped (.list (xs.map PyData.int)) = true := shaped_list (lay_intsT xs).1 (by rw [(lay_intsT xs).2]; omega)
theorem eqvAll_intsT : ∀ xs : List Int, PyData.eqvAll (xs.map PyData.int) (xs.map PyData.int) = true
  | [] => rfl
  | x :: xs => by
    rw [List.map_cons]
    simp [PyData.eqvAll, PyData.eqv, eqvAll_intsT xs]
theorem eq_intsT {K : PySem.W.Frag} {H : Hp} {a b : Addr} {xs : List Int} {Q : VK} (ea : H a = some (.lst (xs.map V.int))) (eb : H b = some (.lst (xs.map V.int))) (q : Q (.bl true) H) : rEqX K (.ref a) (.ref b) H Q := by
  refine .inr ⟨.list (xs.map .int), .list (xs.map .int), .lst (.inl (.inl ea)) (dp_intsT xs), .lst (.inl (.inl eb)) (dp_intsT xs), shaped_intsT xs, shaped_intsT xs, ?_⟩
  rw [show PyData.eqv (.list (xs.map PyData.int)) (.list (xs.map PyData.int)) = true from by simp [PyData.eqv, eqvAll_intsT]]
  exact q
theorem ne_intsT {K : PySem.W.Frag} {H : Hp} {a b : Addr} {xs : List Int} {Q : VK} (ea : H a = some (.lst (xs.map V.int))) (eb : H b = some (.lst (xs.map V.int))) (q : Q (.bl false) H) : rNeX K (.ref a) (.ref b) H Q := by
  refine .inr ⟨.list (xs.map .int), .list (xs.map .int), .lst (.inl (.inl ea)) (dp_intsT xs), .lst (.inl (.inl eb)) (dp_intsT xs), shaped_intsT xs, shaped_intsT xs, ?_⟩
  rw [show PyData.eqv (.list (xs.map PyData.int)) (.list (xs.map PyData.int)) = true from by simp [PyData.eqv, eqvAll_intsT]]
  exact q
theorem eq_strs {K : PySem.W.Frag} {H : Hp} {a b : Addr} {xs : List Str} {Q : VK} (ea : H a = some (.lst (xs.map V.str))) (eb : H b = some (.lst (xs.map V.str))) (h : ∀ s ∈ xs, NameOk s) (q : Q (.bl true) H) : rEqX K (.ref a) (.ref b) H Q := by
  refine .inr ⟨.list (xs.map .str), .list (xs.map .str), .lst (.inl (.inl ea)) (dp_strs xs), .lst (.inl (.inl eb)) (dp_strs xs), shaped_strs h, shaped_strs h, ?_⟩
  rw [show PyData.eqv (.list (xs.map PyData.str)) (.list (xs.map PyData.str)) = true from by simp [PyData.eqv, eqv_strs]]
  exact q
/-- nought everywhere, then at two places otherwise -/
theorem due_at {xs : List Str} {i j : Nat} {r b : Str} {g : Int} (nd : xs.Nodup) (hi : xs[i]? = some r) (hj : xs[j]? = some b) (ne : r ≠ b) :
    ((List.replicate xs.length (0 : Int)).set i (0 - g)).set j g = xs.map fun q => (if b = q then g else 0) - (if r = q then g else 0) := by
  have il := (List.getElem?_eq_some_iff.mp hi).1
  have jl := (List.getElem?_eq_some_iff.mp hj).1
  apply List.ext_getElem?
  intro k
  rw [List.getElem?_map]
  by_cases kl : k < xs.length
  · have hk := List.getElem?_eq_getElem kl
    generalize xs[k] = q at hk
    rw [hk]
    have iff : ∀ {m : Nat} {y : Str}, xs[m]? = some y → (m = k ↔ y = q) := fun {m y} hm => by
      constructor
      · intro e
        subst e
        rw [hk] at hm
        exact (Option.some.inj hm).symm
      · intro e
        subst e
        rcases Nat.lt_trichotomy m k with h | h | h
        · exact absurd rfl (first_at nd hk h hm)
        · exact h
        · exact absurd rfl (first_at nd hm h hk)
    by_cases c1 : j = k
    · have c1' := (iff hj).mp c1
      subst c1
      have c2 : ¬ r = q := fun z => ne (z.trans c1'.symm)
      rw [List.getElem?_set_self (by rw [List.length_set, List.length_replicate]; exact kl)]
      simp [c1', c2]
    · have c1' : ¬ b = q := fun z => c1 ((iff hj).mpr z)
      rw [List.getElem?_set_ne c1]
      by_cases c2 : i = k
      · have c2' := (iff hi).mp c2
        subst c2
        rw [List.getElem?_set_self (by rw [List.length_replicate]; exact kl)]
        simp [c1', c2']
      · have c2' : ¬ r = q := fun z => c2 ((iff hi).mpr z)
        rw [List.getElem?_set_ne c2, List.getElem?_replicate, if_pos kl]
        simp [c1', c2']
  · rw [List.getElem?_eq_none (by rw [List.length_set, List.length_set, List.length_replicate]; omega), List.getElem?_eq_none (by omega)]
    rfl
theorem load_sum (n : Str) : ∀ zs : List ((Str × Int) × Str), ((zs.filter fun z => decide (z.2 = n)).map fun z => z.1.2).sum = (zs.map fun y => if y.2 = n then y.1.2 else 0).sum
  | [] => rfl
  | z :: zs => by
    rw [List.map_cons, List.sum_cons, ← load_sum n zs]
    by_cases e : z.2 = n
    · rw [List.filter_cons_of_pos (by simp [e]), List.map_cons, List.sum_cons, if_pos e]
    · rw [List.filter_cons_of_neg (by simp [e]), if_neg e]
      omega
theorem why_liftAt {x : HallH} {rs ps : List Str} {z : WalkH} {r s : Str} {j : Nat} (snd : (x.stones.map Prod.fst).Nodup) (pl : ps.length = x.stones.length) (hj : (x.stones.map Prod.fst)[j]? = some s) (hw : whyD x rs ps z r [Str.ofString "lift", s] = none) : ps[j]? = some r := by
  have jl := (List.getElem?_eq_some_iff.mp hj).1
  rw [List.length_map, ← pl] at jl
  have hq := List.getElem?_eq_getElem jl
  generalize ps[j] = pq at hq
  have hp : placeOf x ps s = some pq := place_at snd hj hq
  have lf : ¬ liftS = goS := by decide +kernel
  unfold whyD at hw
  by_cases hb : deedB [Str.ofString "lift", s] = true
  · rw [if_pos hb] at hw
    have hl : whyLift x ps z r s = none := by simpa only [show (Str.ofString "lift" : Str) = liftS from rfl, lf, if_false, if_true] using hw
    unfold whyLift at hl
    rw [hp] at hl
    simp only [] at hl
    split at hl
    · cases hl
    · rename_i e
      rw [hq, Decidable.of_not_not e]
  · rw [if_neg hb] at hw
    cases hw
theorem why_layAt {x : HallH} {rs ps : List Str} {z : WalkH} {r s : Str} {j : Nat} (snd : (x.stones.map Prod.fst).Nodup) (pl : ps.length = x.stones.length) (hj : (x.stones.map Prod.fst)[j]? = some s) (hw : whyD x rs ps z r [Str.ofString "lay", s] = none) : ps[j]? = some z.name := by
  have jl := (List.getElem?_eq_some_iff.mp hj).1
  rw [List.length_map, ← pl] at jl
  have hq := List.getElem?_eq_getElem jl
  generalize ps[j] = pq at hq
  have hp : placeOf x ps s = some pq := place_at snd hj hq
  have lg : ¬ layS = goS := by decide +kernel
  have ll : ¬ layS = liftS := by decide +kernel
  unfold whyD at hw
  by_cases hb : deedB [Str.ofString "lay", s] = true
  · rw [if_pos hb] at hw
    have hl : whyLay x ps z s = none := by simpa only [show (Str.ofString "lay" : Str) = layS from rfl, lg, ll, if_false, if_true] using hw
    unfold whyLay at hl
    rw [hp] at hl
    simp only [] at hl
    split at hl
    · cases hl
    · rename_i e
      rw [hq, Decidable.of_not_not e]
  · rw [if_neg hb] at hw
    cases hw
/-- both rooms that a door joins, as its goer sees them -/
theorem ends_perm {d : DoorH} {r b : Str} (h : farH d r = some b) : [r, b].Perm [d.one, d.other] := by
  unfold farH at h
  split at h
  · rename_i e
    cases h
    rw [e]
  · split at h
    · rename_i e
      cases h
      rw [e.1]
      exact List.Perm.swap _ _ _
    · cases h
theorem far_ne {d : DoorH} {r b : Str} (h : farH d r = some b) (ne : d.one ≠ d.other) : r ≠ b := by
  unfold farH at h
  split at h
  · rename_i e
    cases h
    rw [e]
    exact ne
  · split at h
    · rename_i e
      cases h
      rw [e.1]
      exact ne.symm
    · cases h
theorem flat_names (ns : List Str) : (ns.map V.str).all flatV = true := by simp [flatV]
theorem idx_get {ns : List Str} {j : Nat} {s : Str} (hj : ns[j]? = some s) : (ns.map V.str)[j]? = some (.str s) := by rw [List.getElem?_map, hj]; rfl
theorem idx_eq (s : Str) : eqV (.str s) (.str s) = true := by simp [eqV]
theorem idx_first {ns : List Str} {j : Nat} {s : Str} (nd : ns.Nodup) (hj : ns[j]? = some s) (m : Nat) (z' : V) (hm : m < j) (hz : (ns.map V.str)[m]? = some z') : eqV z' (.str s) = false := by
  rw [List.getElem?_map] at hz
  obtain ⟨w, hw, rfl⟩ := Option.map_eq_some_iff.mp hz
  have := first_at nd hj hm hw
  simp [eqV, this]
theorem idx_names {K : PySem.W.Frag} {H : Hp} {l : Addr} {ns : List Str} {j : Nat} {s : Str} {Q : VK} (el : H l = some (.lst (ns.map V.str))) (nd : ns.Nodup) (hj : ns[j]? = some s) (q : Q (.int (j : Nat)) H) : rIndex K (.ref l) [.str s] H Q := by
  refine ⟨l, _, .str s, j, .str s, rfl, rfl, .inl (.inl el), rfl, by simp [flatV], by rw [List.getElem?_map, hj]; rfl, by simp [eqV], fun m z' hm hz => ?_, q⟩
  rw [List.getElem?_map] at hz
  obtain ⟨w, hw, rfl⟩ := Option.map_eq_some_iff.mp hz
  have := first_at nd hj hm hw
  simp [eqV, this]
theorem ixN_nat {n j : Nat} (h : j < n) : ixN n (j : Int) = some j := by
  unfold ixN
  rw [if_pos (by omega), if_pos (by omega)]
  simp
end Wd

set_option Elab.async false
set_option linter.all false
set_option maxRecDepth 100000
set_option maxHeartbeats 4000000
/-! xs[:k] + (y,) + xs[k + 1:] of a tuple of texts: one text is put in the place of another. -/
namespace Wd
open PySem PySem.Spec PyProof.Rows L2
theorem cut_to (xs : List V) (k : Nat) : cutV xs none (some (k : Int)) = xs.take k := by
  unfold cutV
  rw [HT.sIx_nat, HT.sIx_none, List.drop_zero, Nat.sub_zero]
  by_cases h : k ≤ xs.length
  · rw [Nat.min_eq_left h]
  · rw [Nat.min_eq_right (by omega), List.take_length, List.take_of_length_le (by omega)]
theorem cut_from (xs : List V) (k : Nat) : cutV xs (some ((k : Int) + 1)) none = xs.drop (k + 1) := by
  unfold cutV
  rw [show ((k : Int) + 1) = ((k + 1 : Nat) : Int) from by omega, HT.sIx_nat, HT.sIx_none]
  by_cases h : k + 1 ≤ xs.length
  · rw [Nat.min_eq_left h, List.take_of_length_le (by rw [List.length_drop]; omega)]
  · rw [Nat.min_eq_right (by omega), Nat.sub_self, List.take_zero, List.drop_of_length_le (by omega)]
section
variable {K : PySem.W.Frag} {H : Hp} {Q : VK}
theorem slA {a : Addr} {xs : List V} {lo hi : Option Int} (e : SqT K H a xs) (q : ∀ b H', Same H H' → SqT K H' b (cutV xs lo hi) → Q (.ref b) H') : rSlG K (.ref a) lo hi H Q := by
  refine .inr (.inl ⟨a, xs, rfl, e, fun hw => ?_, fun _ p np => q p _ (same_new np) (.inl (.inl upd_same))⟩)
  refine q a H (fun _ _ e => e) ?_
  have : cutV xs lo hi = xs := by
    unfold cutV
    rw [hw.1, hw.2, List.drop_zero, Nat.sub_zero, List.take_length]
  rw [this]
  exact e
theorem catA {a b : Addr} {xs ys : List V} (ea : SqT K H a xs) (eb : SqT K H b ys) (hz : xs.length + ys.length ≤ sizeLine) (q : ∀ c H', Same H H' → SqT K H' c (xs ++ ys) → Q (.ref c) H') : rAddG K (.ref a) (.ref b) H Q := by
  refine .inr ⟨a, b, xs, ys, rfl, rfl, ea, eb, hz, fun h => ?_, fun _ h => ?_, fun _ _ p np => q p _ (same_new np) (.inl (.inl upd_same))⟩
  · exact q b H (fun _ _ e => e) (by rw [h, List.nil_append]; exact eb)
  · exact q a H (fun _ _ e => e) (by rw [h, List.append_nil]; exact ea)
theorem splice {σ : L2.St} {p i : Nat} {te : TE} {tr : Addr} {L : List Str} {k : Nat} {y : Str} (hp : σ[p]? = some (some (.ref tr))) (hi : σ[i]? = some (some (.int (k : Nat)))) (e : SqT K H tr (L.map V.str)) (hk : k < L.length) (hl : L.length ≤ 60)
    (ht : ∀ (H1 : Hp) (Q' : VK), Same H H1 → (∀ H2, Same H1 H2 → Q' (.str y) H2) → te σ H1 Q') (q : ∀ c H', Same H H' → SqT K H' c ((L.set k y).map V.str) → Q (.ref c) H') :
    tOp (rAddG K) (tOp (rAddG K) (tSl (rSlG K) (tVar p) tNoPart (tPart (tVar i))) (tTup (tCons te tNil))) (tSl (rSlG K) (tVar p) (tPart (tOp (rAddG K) (tVar i) (tC (V.int 1)))) tNoPart) σ H Q := by
  refine ⟨.ref tr, hp, .int k, hi, k, rfl, slA e fun b1 H1 s1 e1 => ?_⟩
  rw [cut_to] at e1
  refine ht H1 _ s1 fun H2 s2 => ⟨by show 1 ≤ sizeLine; decide, fun u nu => ?_⟩
  have s3 := same_new nu (o := .tup [.str y])
  have e3 : (upd H2 u (.tup [.str y])) u = some (.tup [.str y]) := upd_same
  generalize upd H2 u (.tup [.str y]) = H3 at s3 e3
  have l1 : ((L.map V.str).take k).length = k := by rw [List.length_take, List.length_map]; omega
  refine catA (same_sqT (s2.trans s3) e1) (.inl (.inl e3)) (by rw [l1, sizeLine_eq]; show k + 1 ≤ _; omega) fun b2 H4 s4 e4 => ?_
  refine ⟨.ref tr, hp, .int k, hi, _, rfl, slA (same_sqT (((s1.trans s2).trans s3).trans s4) e) fun b3 H5 s5 e5 => ?_⟩
  rw [cut_from] at e5
  refine catA (same_sqT s5 e4) e5 (by rw [List.length_append, l1, List.length_drop, List.length_map, sizeLine_eq]; show k + 1 + _ ≤ _; omega) fun c H6 s6 e6 => ?_
  refine q c H6 (((((s1.trans s2).trans s3).trans s4).trans s5).trans s6) ?_
  rw [List.set_eq_take_append_cons_drop, if_pos hk, List.map_append, List.map_cons, List.map_take, List.map_drop]
  rw [List.append_assoc] at e6
  exact e6
theorem spliceV {σ : L2.St} {p i : Nat} {te : TE} {tr : Addr} {L : List V} {k : Nat} {y : V} (hp : σ[p]? = some (some (.ref tr))) (hi : σ[i]? = some (some (.int (k : Nat)))) (e : SqT K H tr L) (hk : k < L.length) (hl : L.length ≤ 60)
    (ht : ∀ (H1 : Hp) (Q' : VK), Same H H1 → (∀ H2, Same H1 H2 → Q' y H2) → te σ H1 Q') (q : ∀ c H', Same H H' → SqT K H' c (L.take k ++ ([y] ++ L.drop (k + 1))) → Q (.ref c) H') :
    tOp (rAddG K) (tOp (rAddG K) (tSl (rSlG K) (tVar p) tNoPart (tPart (tVar i))) (tTup (tCons te tNil))) (tSl (rSlG K) (tVar p) (tPart (tOp (rAddG K) (tVar i) (tC (V.int 1)))) tNoPart) σ H Q := by
  refine ⟨.ref tr, hp, .int k, hi, k, rfl, slA e fun b1 H1 s1 e1 => ?_⟩
  rw [cut_to] at e1
  refine ht H1 _ s1 fun H2 s2 => ⟨by show 1 ≤ sizeLine; decide, fun u nu => ?_⟩
  have s3 := same_new nu (o := .tup [y])
  have e3 : (upd H2 u (.tup [y])) u = some (.tup [y]) := upd_same
  generalize upd H2 u (.tup [y]) = H3 at s3 e3
  have l1 : (L.take k).length = k := by rw [List.length_take]; omega
  refine catA (same_sqT (s2.trans s3) e1) (.inl (.inl e3)) (by rw [l1, sizeLine_eq]; show k + 1 ≤ _; omega) fun b2 H4 s4 e4 => ?_
  refine ⟨.ref tr, hp, .int k, hi, _, rfl, slA (same_sqT (((s1.trans s2).trans s3).trans s4) e) fun b3 H5 s5 e5 => ?_⟩
  rw [cut_from] at e5
  refine catA (same_sqT s5 e4) e5 (by rw [List.length_append, l1, List.length_drop, sizeLine_eq]; show k + 1 + _ ≤ _; omega) fun c H6 s6 e6 => ?_
  refine q c H6 (((((s1.trans s2).trans s3).trans s4).trans s5).trans s6) ?_
  rw [List.append_assoc] at e6
  exact e6
theorem cutout {σ : L2.St} {p i : Nat} {tr : Addr} {L : List V} {k : Nat} (hp : σ[p]? = some (some (.ref tr))) (hi : σ[i]? = some (some (.int (k : Nat)))) (e : SqT K H tr L) (hk : k < L.length) (hl : L.length ≤ 60)
    (q : ∀ c H', Same H H' → SqT K H' c (L.take k ++ L.drop (k + 1)) → Q (.ref c) H') :
    tOp (rAddG K) (tSl (rSlG K) (tVar p) tNoPart (tPart (tVar i))) (tSl (rSlG K) (tVar p) (tPart (tOp (rAddG K) (tVar i) (tC (V.int 1)))) tNoPart) σ H Q := by
  refine ⟨.ref tr, hp, .int k, hi, k, rfl, slA e fun b1 H1 s1 e1 => ?_⟩
  rw [cut_to] at e1
  refine ⟨.ref tr, hp, .int k, hi, _, rfl, slA (same_sqT s1 e) fun b3 H5 s5 e5 => ?_⟩
  rw [cut_from] at e5
  exact catA (same_sqT s5 e1) e5 (by rw [List.length_take, List.length_drop, sizeLine_eq]; omega) fun c H6 s6 e6 => q c H6 ((s1.trans s5).trans s6) e6
end
end Wd

set_option Elab.async false
set_option linter.all false
set_option maxRecDepth 100000
set_option maxHeartbeats 4000000
/-! Tuples put together, whose object is known to have no dict. -/
namespace Wd
open PySem PySem.Spec PyProof.Rows L2
def rCatF (K : PySem.W.Frag) : R2 := fun x y H Q => ∃ a b xs ys, x = .ref a ∧ y = .ref b ∧ SqT K H a xs ∧ SqT K H b ys ∧ xs.length + ys.length ≤ sizeLine ∧
  (xs = [] → Q (.ref b) H) ∧ (xs ≠ [] → ys = [] → Q (.ref a) H) ∧ (xs ≠ [] → ys ≠ [] → ∀ p (o : Obj), H p = none → o.dict = none → Q (.ref p) (upd H p (.frz o (.tup (xs ++ ys)))))
theorem op_catF {X : Cx} {K : PySem.W.Frag} (hK : X.K = K := by rfl) : OpR X (binaryOp .Add) (rCatF K) := by
  subst hK
  intro pins s σ H x y v u Q I rx ry h
  obtain ⟨a, b, xs, ys, rfl, rfl, ha, hb, hz, q0, q1, q2⟩ := h
  by_cases hx : xs = []
  · exact op_catA pins s σ H _ _ v u Q I rx ry ⟨a, b, xs, ys, rfl, rfl, ha, hb, hz, q0, q1, fun z => absurd hx z⟩
  cases rx
  cases ry
  obtain ⟨us, r1, p1, _⟩ := I.tuple ha
  obtain ⟨vs, r2, p2, _⟩ := I.tuple hb
  refine HT.cat_tup p1 p2 (fun z => hx (r1.nil_iff.mp z)) (fun z => ⟨.ref a, H, I, rfl, q1 hx (r2.nil_iff.mp z)⟩) (fun z => ?_) (by rw [← r1.length, ← r2.length]; exact hz)
  have hf : H s.heap.objs.size = none := I.hok.fresh (Nat.le_refl _)
  refine ⟨.ref s.heap.objs.size, upd H s.heap.objs.size _, I.laid (t' := s.toks) (fun c oc e => Heap.get?_push_of_some _ e) (Nat.le_refl _) ?_, rfl, q2 hx (fun e => z (r2.nil_iff.mpr e)) _ { cls := .type "tuple", data := .seq (us ++ vs).toArray } hf rfl⟩
  exact ⟨Heap.get?_push_size _ (by first | rfl | simp), by rw [List.length_append]; exact hz, _, r1.append r2, ⟨_, Heap.get?_push_size _ rfl, rfl, _, rfl⟩⟩
section
variable {K : PySem.W.Frag} {H : Hp} {Q : VK}
/-- what is known of the parts without a dict is known of the whole -/
theorem catF {a b : Addr} {xs ys : List V} (ea : SqT K H a xs) (eb : SqT K H b ys) (fa : FT H a xs ∨ xs = []) (fb : FT H b ys ∨ ys = []) (n : xs ++ ys ≠ []) (l : xs.length + ys.length ≤ sizeLine) (q : ∀ c H', Same H H' → FT H' c (xs ++ ys) → Q (.ref c) H') : rCatF K (.ref a) (.ref b) H Q := by
  refine ⟨a, b, xs, ys, rfl, rfl, ea, eb, l, fun e => ?_, fun e1 e2 => ?_, fun _ _ p o np no => q p _ (same_new np) ⟨o, upd_same, no⟩⟩
  · subst e
    rcases fb with fb | e
    · exact q b H (fun _ _ z => z) fb
    · exact absurd (by rw [e]; rfl) n
  · subst e2
    rcases fa with fa | e
    · exact q a H (fun _ _ z => z) (by rw [List.append_nil]; exact fa)
    · exact absurd e e1
theorem catFnew {a b : Addr} {xs ys : List V} (ea : SqT K H a xs) (eb : FT H b ys) (hy : ys ≠ []) (l : xs.length + ys.length ≤ sizeLine) (q : ∀ c H', Same H H' → FT H' c (xs ++ ys) → Q (.ref c) H') : rCatF K (.ref a) (.ref b) H Q := by
  refine ⟨a, b, xs, ys, rfl, rfl, ea, eb.sqT, l, fun e => ?_, fun _ e => absurd e hy, fun _ _ p o np no => q p _ (same_new np) ⟨o, upd_same, no⟩⟩
  subst e
  exact q b H (fun _ _ z => z) eb
theorem catFany {a b : Addr} {xs ys : List V} (ea : FT H a xs) (hx : xs ≠ []) (eb : SqT K H b ys) (l : xs.length + ys.length ≤ sizeLine) (q : ∀ c H', Same H H' → FT H' c (xs ++ ys) → Q (.ref c) H') : rCatF K (.ref a) (.ref b) H Q := by
  refine ⟨a, b, xs, ys, rfl, rfl, ea.sqT, eb, l, fun e => absurd e hx, fun _ e => ?_, fun _ _ p o np no => q p _ (same_new np) ⟨o, upd_same, no⟩⟩
  subst e
  exact q a H (fun _ _ z => z) (by rw [List.append_nil]; exact ea)
/-- t[:k] + (y,) + t[k + 1:], known to have no dict -/
theorem spliceF {σ : L2.St} {p i j : Nat} {tr : Addr} {L : List Str} {k : Nat} {y : Str} (hp : σ[p]? = some (some (.ref tr))) (hi : σ[i]? = some (some (.int (k : Nat)))) (hj : σ[j]? = some (some (.str y))) (e : SqT K H tr (L.map V.str)) (hk : k < L.length) (hl : L.length ≤ 60)
    (q : ∀ c H', Same H H' → FT H' c ((L.set k y).map V.str) → Q (.ref c) H') :
    tOp (rCatF K) (tOp (rCatF K) (tSl (rSlG K) (tVar p) tNoPart (tPart (tVar i))) (tTupF (tCons (tVar j) tNil))) (tSl (rSlG K) (tVar p) (tPart (tOp (rAddG K) (tVar i) (tC (V.int 1)))) tNoPart) σ H Q := by
  have ll : (L.map V.str).length = L.length := List.length_map _
  refine ⟨.ref tr, hp, .int k, hi, k, rfl, slA e fun b1 H1 s1 e1 => ?_⟩
  rw [cut_to] at e1
  refine ⟨.str y, hj, by show 1 ≤ sizeLine; decide, fun u o nu no => ?_⟩
  have s3 := same_new nu (o := .frz o (.tup [.str y]))
  have e3 : FT (upd H1 u (.frz o (.tup [.str y]))) u [.str y] := ⟨o, upd_same, no⟩
  generalize upd H1 u (.frz o (.tup [.str y])) = H3 at s3 e3
  have l1 : ((L.map V.str).take k).length = k := by rw [List.length_take, ll]; omega
  refine catFnew (same_sqT s3 e1) e3 (by simp) (by rw [l1, sizeLine_eq]; show k + 1 ≤ _; omega) fun b2 H4 s4 e4 => ?_
  refine ⟨.ref tr, hp, .int k, hi, _, rfl, slA (same_sqT ((s1.trans s3).trans s4) e) fun b3 H5 s5 e5 => ?_⟩
  rw [cut_from] at e5
  refine catFany (e4.same s5) (by simp) e5 (by rw [List.length_append, l1, List.length_drop, ll, sizeLine_eq]; show k + 1 + _ ≤ _; omega) fun c H6 s6 e6 => ?_
  refine q c H6 ((((s1.trans s3).trans s4).trans s5).trans s6) ?_
  have e : (L.map V.str).take k ++ [V.str y] ++ (L.map V.str).drop (k + 1) = (L.set k y).map V.str := by
    rw [List.set_eq_take_append_cons_drop, if_pos hk, List.map_append, List.map_cons, List.map_take, List.map_drop, List.append_assoc]
    rfl
  rw [← e]
  exact e6
end
end Wd

set_option Elab.async false
set_option linter.all false
set_option maxRecDepth 100000
set_option maxHeartbeats 4000000
/-! (..) == ('wait',) of a tuple whose first thing is of any kind. -/
namespace Wd
open PySem PySem.Spec PyProof.Rows L2 PySem.SeqAt
section
variable {A : Around} {s : Shared}
theorem rcat_dict_text {l : Addr} {o : Obj} {es : Array DictEntry} {n : Nat} (z : Str) (u : Tok) (ho : s.heap.get? l = some o) (hx : o.cls = .type "dict") (hd : o.data = .dict es n) (room : A.units < cLine) : RcAt A s (.ref l) (.str z u) false := fun prog w E Q h => by
  obtain ⟨cls, dd, data, sl⟩ := o
  simp only at hx hd
  subst hx hd
  exact rc_eq_decline_or (k := false) ⟨_, ho, rfl⟩ (typeIs_str s z u) (by decide) F.sub_str_dict F.slot_dict_eq F.slot_str_eq_refl
    (fun _ g => call_meets F.slot_dict_eq ⟨_, ho, rfl⟩ F.entry_dict_eq (F.args_dict_eq_2 _ _) (dict_declines_str l es n dd sl z u) ⟨ho, g⟩)
    (fun _ g => call_meets F.slot_str_eq_refl (typeIs_str s z u) F.entry_str_eq (F.args_str_eq_2 _ _) (str_declines_dict z u l (.type "dict") es n dd sl) ⟨ho, g⟩)
    (fun _ g => wpAny_of_eq (rfl : isSame (.ref l) (.str z u) = pure false) g) (.inr room) h
theorem eqat_dict_text {l : Addr} {o : Obj} {es : Array DictEntry} {n : Nat} (z : Str) (u : Tok) (ho : s.heap.get? l = some o) (hx : o.cls = .type "dict") (hd : o.data = .dict es n) (room : A.units < cLine) : EqAt A s (.ref l) (.str z u) false := fun prog w E Q h => by
  unfold eqBool
  refine wpAny_holding (wpAny_ite_split (fun hab => absurd (eq_of_beq hab) nofun) fun _ => wpAny_bind ?_)
  exact rcat_dict_text z u ho hx hd room prog w E _ (wpAny_truthy_bool h)
end
section
variable {X : Cx} {pins : List (Addr × Obj)} {σ : L2.St} {H : Hp} {s : Shared}
theorem hit_eqL {A : Around} {x : V} {v : Value} {hit : Str → Bool} (I : Inv X pins σ H s) (room : A.units < cLine) (h : HitV X.K H x hit) (r : RelV x v) (y : Str) (t : Tok) : EqAt A s v (.str y t) (hit y) := by
  cases h with
  | str a =>
    obtain ⟨t2, rfl⟩ := r
    have e := EqAt.str_str (A := A) (s := s) a t2 y t
    have e2 : (a == y) = decide (y = a) := by
      rw [Bool.eq_iff_iff, decide_eq_true_iff, beq_iff_eq]
      exact eq_comm
    rw [e2] at e
    exact e
  | non =>
    obtain rfl : v = .none := r
    exact EqAt.none_str y t
  | bl b =>
    obtain rfl : v = .bool b := r
    exact EqAt.bool_str b y t
  | int i =>
    obtain ⟨t2, rfl⟩ := r
    exact EqAt.int_str i t2 y t
  | lst hs =>
    obtain rfl : v = .ref _ := r
    obtain ⟨its, _, pl, _⟩ := I.list hs
    exact EqAt.list_str y t pl.isList room
  | tup hs =>
    obtain rfl : v = .ref _ := r
    obtain ⟨its, _, pl, _⟩ := I.tuple hs
    exact EqAt.tuple_str y t pl room
  | dK hd =>
    obtain rfl : v = .ref _ := r
    obtain ⟨o, es, n, e1, e2, e3⟩ := dict_obj I hd
    exact eqat_dict_text y t e1 e2 e3 room
/-- a tuple whose first thing is of any kind against a tuple of one text -/
def rEqW (K : PySem.W.Frag) : R2 := fun x y H Q => ∃ (a b : Addr) (xs : List V) (z : Str), x = .ref a ∧ y = .ref b ∧ SqT K H a xs ∧ SqT K H b [.str z] ∧
  ((xs.length ≠ 1 ∧ (∀ v, xs[0]? = some v → ∃ hit, HitV K H v hit) ∧ Q (.bl false) H) ∨ ∃ v hit, xs = [v] ∧ HitV K H v hit ∧ Q (.bl (hit z)) H)
theorem op_eqW {K : PySem.W.Frag} (hu : X.A.units + 64 < cLine) (hK : X.K = K := by rfl) : OpR X (compareOp .Eq) (rEqW K) := by
  subst hK
  intro pins s σ H x y v u Q I rx ry h
  obtain ⟨a, b, xs, z, rfl, rfl, ha, hb, h⟩ := h
  obtain rfl : v = .ref a := rx
  obtain rfl : u = .ref b := ry
  obtain ⟨its, r1, p1, _⟩ := I.tuple ha
  obtain ⟨its2, r2, p2, _⟩ := I.tuple hb
  have room : X.A.in1.units < cLine := by
    have : X.A.in1.units = X.A.units + 1 := rfl
    omega
  obtain ⟨w2, rfl, ⟨t2, rfl⟩⟩ : ∃ w2, its2 = [w2] ∧ RelV (.str z) w2 := by
    cases r2 with
    | cons r q =>
      cases q
      exact ⟨_, rfl, r⟩
  have go : ∀ (k : Bool), (∀ v0 u0, xs[0]? = some v0 → its[0]? = some u0 → RelV v0 u0 → EqAt X.A.in1 s u0 (.str z t2) k) → Q (.bl ((List.range (min its.length 1)).all (fun _ => k) && its.length == 1)) H → wpAny (model X.prog X.w) X.A (compareOp .Eq (.ref a) (.ref b)) (EP X pins σ Q) X.xe s := fun k hk q => by
    refine eq_tupleAt (e := fun _ => k) p1 p2 (by omega) (fun j j1 j2 => ?_) ⟨.bl _, H, I, rfl, ?_⟩
    · have j0 : j = 0 := by
        have : j < 1 := by simpa using j2
        omega
      subst j0
      have l1 : 0 < its.length := by simpa using j1
      have lx : 0 < xs.length := by rw [r1.length]; exact l1
      obtain ⟨u0, hu0, rr⟩ := r1.get (List.getElem?_eq_getElem lx)
      have e1 : its.toArray[0] = u0 := by
        have := List.getElem?_eq_getElem l1
        rw [hu0] at this
        simpa using (Option.some.inj this).symm
      have e2 : (#[Value.str z t2] : Array Value)[0] = .str z t2 := rfl
      have := hk xs[0] u0 (List.getElem?_eq_getElem lx) hu0 rr
      rw [← e1] at this
      exact this
    · have es : its.toArray.size = its.length := List.size_toArray
      show Q (.bl ((List.range (min its.toArray.size 1)).all (fun _ => k) && its.toArray.size == 1)) H
      rw [es]
      exact q
  rcases h with ⟨hn, hv, q⟩ | ⟨v0, hit, rfl, hv, q⟩
  · have hl : (its.length == 1) = false := by
      rw [← r1.length]
      exact beq_false_of_ne hn
    cases hx : xs[0]? with
    | none =>
      refine go false (fun v1 u1 h1 => by rw [hx] at h1; cases h1) ?_
      rw [hl, Bool.and_false]
      exact q
    | some v1 =>
      obtain ⟨hit, hh⟩ := hv v1 hx
      refine go (hit z) (fun v2 u2 h2 _ rr => ?_) (by rw [hl, Bool.and_false]; exact q)
      rw [hx] at h2
      cases h2
      exact hit_eqL I room hh rr z t2
  · refine go (hit z) (fun v2 u2 h2 _ rr => ?_) ?_
    · cases h2
      exact hit_eqL I room hv rr z t2
    · have : its.length = 1 := by rw [← r1.length]; rfl
      rw [this]
      show Q (.bl ((List.range 1).all (fun _ => hit z) && (1 == 1))) H
      have e : ((List.range 1).all (fun _ => hit z) && ((1 : Nat) == 1)) = hit z := by
        cases hit z <;> rfl
      rw [e]
      exact q
end
def rEqWX (K : PySem.W.Frag) : R2 := fun x y H Q => rEqX K x y H Q ∨ rEqW K x y H Q
theorem op_eqWX {X : Cx} {K : PySem.W.Frag} (hu : X.A.units + 64 < cLine) (hK : X.K = K := by rfl) : OpR X (compareOp .Eq) (rEqWX K) := by
  subst hK
  exact (op_eqX hu).or (op_eqW hu)
end Wd

set_option Elab.async false
set_option linter.all false
set_option maxRecDepth 100000
set_option maxHeartbeats 4000000
/-! i not in range(lo, hi). -/
namespace Wd
open PySem PySem.Spec PyProof.Rows L2 PySem.SeqAt
section
variable {X : Cx}
theorem op_notIn_rng : OpR X (compareOp .NotIn) (fun x y H Q => ∃ i a lo hi, x = V.int i ∧ y = V.ref a ∧ H a = some (.rng lo hi) ∧ Q (.bl (!decide (lo ≤ i ∧ i < hi))) H) := by
  intro pins s σ H x y v u Q I rx ry h
  obtain ⟨i, a, lo, hi, rfl, rfl, ha, q⟩ := h
  obtain ⟨k, rfl⟩ := rx
  obtain rfl : u = Value.ref a := ry
  obtain ⟨t1, t2, t3, ho⟩ := I.hok a _ ha
  show wpAny _ _ (do return Value.bool (!(← contains (Value.ref a) (Value.int i k)))) _ _ s
  refine wpAny_bind (wpAny_contains_slot (T := "range") ⟨_, ho, rfl⟩ F.slot_range_contains (call_meets F.slot_range_contains ⟨_, ho, rfl⟩ F.entry_range_contains (F.args_range_contains_2 _ _) (q_contains a lo hi i t1 t2 t3 k)
    ⟨ho, wpAny_truthy_bool (wpAny_pure ⟨.bl _, H, I, rfl, ?_⟩)⟩))
  rw [place1]
  exact q
/-- a tuple of anything against the empty one -/
def rEq0 (K : PySem.W.Frag) : R2 := fun x y H Q => ∃ (a b : Addr) (xs : List V), x = .ref a ∧ y = .ref b ∧ SqT K H a xs ∧ SqT K H b [] ∧ Q (.bl (xs.length == 0)) H
theorem op_eq0 {K : PySem.W.Frag} (hu : X.A.units + 64 < cLine) (hK : X.K = K := by rfl) : OpR X (compareOp .Eq) (rEq0 K) := by
  subst hK
  intro pins s σ H x y v u Q I rx ry h
  obtain ⟨a, b, xs, rfl, rfl, ha, hb, q⟩ := h
  obtain rfl : v = .ref a := rx
  obtain rfl : u = .ref b := ry
  obtain ⟨its, r1, p1, _⟩ := I.tuple ha
  obtain ⟨its2, r2, p2, _⟩ := I.tuple hb
  obtain rfl : its2 = [] := by cases r2; rfl
  refine eq_tupleAt (e := fun _ => true) p1 p2 (by omega) (fun j j1 j2 => absurd j2 (Nat.not_lt_zero _)) ⟨.bl _, H, I, rfl, ?_⟩
  have es : its.toArray.size = its.length := List.size_toArray
  show Q (.bl ((List.range (min its.toArray.size 0)).all (fun _ => true) && its.toArray.size == 0)) H
  rw [es, Nat.min_zero, ← r1.length]
  exact q
end
end Wd

set_option Elab.async false
set_option linter.all false
set_option maxRecDepth 100000
set_option maxHeartbeats 4000000
/-! Small things of any kind, and tuples of them, as data that outlives writes elsewhere. -/
namespace Wd
open PySem PySem.Spec PyProof.Rows L2
def TxtD (s : Str) : Prop := Neat 12 0 (.str s) ∧ PyData.strOk s = true ∧ s.length ≤ 9
theorem txt_name {s : Str} (h : NameOk s) : TxtD s := ⟨(neat_name h).mono (by decide) (Nat.le_refl _), name_ok h, by have := (name_len h).2; omega⟩
inductive Bt (N : Addr → Prop) (K : PySem.W.Frag) (H : Hp) : V → PyData → Prop
  | str {s : Str} (h : TxtD s) : Bt N K H (.str s) (.str s)
  | non : Bt N K H .non .none
  | bl (b : Bool) : Bt N K H (.bl b) (.bool b)
  | zero : Bt N K H (.int 0) (.int 0)
  | tup {u : Addr} {xs : List Str} (e : SqT K H u (xs.map V.str)) (l : xs.length ≤ 2) (h : ∀ s ∈ xs, TxtD s) : Bt N K H (.ref u) (.tuple (xs.map PyData.str))
  | lst {u : Addr} {xs : List Str} (n : N u) (e : H u = some (.lst (xs.map V.str))) (l : xs.length ≤ 2) (h : ∀ s ∈ xs, TxtD s) : Bt N K H (.ref u) (.list (xs.map PyData.str))
  | dct {u : Addr} (n : N u) (e : H u = some (.dK [])) : Bt N K H (.ref u) (.dict [])
inductive BtAll (N : Addr → Prop) (K : PySem.W.Frag) (H : Hp) : List V → List PyData → Prop
  | nil : BtAll N K H [] []
  | cons {v : V} {d : PyData} {vs : List V} {ds : List PyData} (h : Bt N K H v d) (q : BtAll N K H vs ds) : BtAll N K H (v :: vs) (d :: ds)
inductive Bn (N : Addr → Prop) (K : PySem.W.Frag) (H : Hp) : V → PyData → Prop
  | bit {v : V} {d : PyData} (h : Bt N K H v d) : Bn N K H v d
  | tup {u : Addr} {vs : List V} {ds : List PyData} (e : SqT K H u vs) (l : vs.length ≤ 3) (q : BtAll N K H vs ds) : Bn N K H (.ref u) (.tuple ds)
section
variable {N N' : Addr → Prop} {K : PySem.W.Frag} {H H' : Hp}
theorem Bt.move (n : ∀ a, N a → N' a) (t : ∀ a xs, SqT K H a xs → SqT K H' a xs) (s : ∀ a o, N a → H a = some o → H' a = some o) {v : V} {d : PyData} (h : Bt N K H v d) : Bt N' K H' v d := by
  cases h with
  | str h => exact .str h
  | non => exact .non
  | bl b => exact .bl b
  | zero => exact .zero
  | tup e l h => exact .tup (t _ _ e) l h
  | lst m e l h => exact .lst (n _ m) (s _ _ m e) l h
  | dct m e => exact .dct (n _ m) (s _ _ m e)
theorem BtAll.move (n : ∀ a, N a → N' a) (t : ∀ a xs, SqT K H a xs → SqT K H' a xs) (s : ∀ a o, N a → H a = some o → H' a = some o) : ∀ {vs : List V} {ds : List PyData}, BtAll N K H vs ds → BtAll N' K H' vs ds
  | _, _, .nil => .nil
  | _, _, .cons h q => .cons (h.move n t s) (q.move n t s)
theorem Bn.move (n : ∀ a, N a → N' a) (t : ∀ a xs, SqT K H a xs → SqT K H' a xs) (s : ∀ a o, N a → H a = some o → H' a = some o) {v : V} {d : PyData} (h : Bn N K H v d) : Bn N' K H' v d := by
  cases h with
  | bit h => exact .bit (h.move n t s)
  | tup e l q => exact .tup (t _ _ e) l (q.move n t s)
theorem Bt.dq {v : V} {d : PyData} (h : Bt N K H v d) : Dq anyA K H v d := by
  cases h with
  | str h => exact .str _
  | non => exact .non
  | bl b => exact .bl b
  | zero => exact .int 0
  | tup e l h => exact .tup trivial e (DqAll.strs _)
  | lst m e l h => exact .lst trivial (.inl (.inl e)) (DqAll.strs _)
  | dct m e => exact .dct trivial (.inl e) .nil
theorem BtAll.dq : ∀ {vs : List V} {ds : List PyData}, BtAll N K H vs ds → DqAll anyA K H vs ds
  | _, _, .nil => .nil
  | _, _, .cons h q => .cons h.dq q.dq
theorem Bn.dq {v : V} {d : PyData} (h : Bn N K H v d) : Dq anyA K H v d := by
  cases h with
  | bit h => exact h.dq
  | tup e l q => exact .tup trivial e q.dq
theorem Bt.neat {v : V} {d : PyData} (h : Bt N K H v d) : Neat 40 1 d := by
  cases h with
  | str h => exact h.1.mono (by decide) (by decide)
  | non => exact ⟨by decide +kernel, by decide +kernel, by decide +kernel, by decide +kernel⟩
  | bl b => cases b <;> exact ⟨by decide +kernel, by decide +kernel, by decide +kernel, by decide +kernel⟩
  | zero => exact ⟨by decide +kernel, by decide +kernel, by decide +kernel, by decide +kernel⟩
  | tup e l h => exact (neat_tup (w := 12) (dp := 0) (m := 2) (fun d hd => by obtain ⟨s, hs, rfl⟩ := List.mem_map.mp hd; exact (h s hs).1) (by rw [List.length_map]; exact l)).mono (by decide) (by decide)
  | lst m e l h => exact (neat_lst (w := 12) (dp := 0) (m := 2) (fun d hd => by obtain ⟨s, hs, rfl⟩ := List.mem_map.mp hd; exact (h s hs).1) (by rw [List.length_map]; exact l)).mono (by decide) (by decide)
  | dct m e => exact ⟨by decide +kernel, by decide +kernel, by decide +kernel, by decide +kernel⟩
theorem BtAll.neat : ∀ {vs : List V} {ds : List PyData}, BtAll N K H vs ds → ds.length = vs.length ∧ ∀ d ∈ ds, Neat 40 1 d
  | _, _, .nil => ⟨rfl, fun _ h => nomatch h⟩
  | _, _, .cons h q => by
    obtain ⟨a, b⟩ := q.neat
    refine ⟨by rw [List.length_cons, List.length_cons, a], fun d hd => ?_⟩
    rcases List.mem_cons.mp hd with rfl | hd
    · exact h.neat
    · exact b d hd
theorem Bn.neat {v : V} {d : PyData} (h : Bn N K H v d) : Neat 123 2 d := by
  cases h with
  | bit h => exact h.neat.mono (by decide) (by decide)
  | tup e l q =>
    obtain ⟨a, b⟩ := q.neat
    exact neat_tup (w := 40) (dp := 1) (m := 3) b (by rw [a]; exact l)
theorem Bt.hit {v : V} {d : PyData} (h : Bt N K H v d) : ∃ hit, HitV K H v hit ∧ ((∃ s, v = .str s ∧ TxtD s) ∨ ((∀ s, v ≠ .str s) ∧ hit = fun _ => false)) := by
  cases h with
  | str h => exact ⟨_, .str _, .inl ⟨_, rfl, h⟩⟩
  | non => exact ⟨_, .non, .inr ⟨(fun _ z => nomatch z), rfl⟩⟩
  | bl b => exact ⟨_, .bl b, .inr ⟨(fun _ z => nomatch z), rfl⟩⟩
  | zero => exact ⟨_, .int 0, .inr ⟨(fun _ z => nomatch z), rfl⟩⟩
  | tup e l h => exact ⟨_, .tup e, .inr ⟨(fun _ z => nomatch z), rfl⟩⟩
  | lst m e l h => exact ⟨_, .lst (.inl (.inl e)), .inr ⟨(fun _ z => nomatch z), rfl⟩⟩
  | dct m e => exact ⟨_, .dK (.inl e), .inr ⟨(fun _ z => nomatch z), rfl⟩⟩
theorem BtAll.strs : ∀ {xs : List Str}, (∀ s ∈ xs, TxtD s) → BtAll N K H (xs.map V.str) (xs.map PyData.str)
  | [], _ => .nil
  | x :: xs, h => .cons (.str (h x List.mem_cons_self)) (BtAll.strs fun s hs => h s (List.mem_cons_of_mem _ hs))
theorem BtAll.append : ∀ {vs ws : List V} {ds es : List PyData}, BtAll N K H vs ds → BtAll N K H ws es → BtAll N K H (vs ++ ws) (ds ++ es)
  | _, _, _, _, .nil, r => r
  | _, _, _, _, .cons h q, r => .cons h (q.append r)
theorem BtAll.mem : ∀ {vs : List V} {ds : List PyData} {v : V}, BtAll N K H vs ds → v ∈ vs → ∃ d, Bt N K H v d
  | _, _, _, .cons h q, m => by
    rcases List.mem_cons.mp m with rfl | m
    · exact ⟨_, h⟩
    · exact q.mem m
end
end Wd

set_option Elab.async false
set_option linter.all false
set_option maxRecDepth 100000
set_option maxHeartbeats 400000
namespace Wd
open PySem PySem.Spec PyProof.Rows L2
theorem tx_of {s : Str} (h1 : s.cps.all (fun c => decide (c < 1000)) = true) (h2 : s.length ≤ 9) : TxtD s := by
  have h : ∀ c ∈ s.cps.toList, c < 1000 := fun c hc => by
    rw [Array.all_eq_true_iff_forall_mem] at h1
    exact of_decide_eq_true (h1 c (by simpa using hc))
  refine ⟨neat_str (n := 12) (fun c hc => Nat.lt_trans (h c hc) (by decide)) (by omega), ?_, h2⟩
  show s.cps.all (fun c => decide (c < 0x110000)) = true
  rw [Array.all_eq_true_iff_forall_mem]
  exact fun c hc => decide_eq_true (by have := h c (by simpa using hc); omega)
theorem tx_go : TxtD (Str.ofString "go") := tx_of (by decide +kernel) (by decide +kernel)
theorem tx_lift : TxtD (Str.ofString "lift") := tx_of (by decide +kernel) (by decide +kernel)
theorem tx_lay : TxtD (Str.ofString "lay") := tx_of (by decide +kernel) (by decide +kernel)
theorem tx_wait : TxtD (Str.ofString "wait") := tx_of (by decide +kernel) (by decide +kernel)
theorem tx_emp : TxtD (Str.ofString "") := tx_of (by decide +kernel) (by decide +kernel)
theorem tx_big : TxtD (Str.ofString "A") := tx_of (by decide +kernel) (by decide +kernel)
theorem tx_sp : TxtD (Str.ofString "a b") := tx_of (by decide +kernel) (by decide +kernel)
theorem tx_long : TxtD (Str.ofString "abcdefghi") := tx_of (by decide +kernel) (by decide +kernel)
theorem tx_ab : TxtD (Str.ofString "ab") := tx_of (by decide +kernel) (by decide +kernel)
theorem tx_zz : TxtD (Str.ofString "zz") := tx_of (by decide +kernel) (by decide +kernel)
end Wd

set_option Elab.async false
set_option linter.all false
set_option maxRecDepth 100000
set_option maxHeartbeats 4000000
/-! Things of any kind: scalars, tuples, lists, empty dicts. Their tuples are known to have no dict. -/
namespace Wd
open PySem PySem.Spec PyProof.Rows L2
/-! ### slices of tuples, known to have no dict -/
def rSlF (K : PySem.W.Frag) : V → Option Int → Option Int → Hp → VK → Prop := fun x lo hi H Q => ∃ a xs, x = .ref a ∧ SqT K H a xs ∧
  (HT.sIx xs.length 0 lo = 0 ∧ HT.sIx xs.length xs.length hi = xs.length → Q (.ref a) H) ∧ (¬ (HT.sIx xs.length 0 lo = 0 ∧ HT.sIx xs.length xs.length hi = xs.length) → ∀ p (o : Obj), H p = none → o.dict = none → Q (.ref p) (upd H p (.frz o (.tup (cutV xs lo hi)))))
theorem sl_F {X : Cx} {K : PySem.W.Frag} (hK : X.K = K := by rfl) : SlR X (rSlF K) := by
  subst hK
  intro pins s σ H x v vl vu lo hi sl Q I rx hs pl pu h
  obtain ⟨a, xs, rfl, hx, q1, q2⟩ := h
  by_cases hw : HT.sIx xs.length 0 lo = 0 ∧ HT.sIx xs.length xs.length hi = xs.length
  · exact sl_tupA pins s σ H _ v vl vu lo hi sl Q I rx hs pl pu ⟨a, xs, rfl, hx, q1, fun z => absurd hw z⟩
  · cases rx
    obtain ⟨its, r, ht, hz⟩ := I.tuple hx
    have hlen : its.toArray.size = xs.length := by rw [List.size_toArray]; exact r.length.symm
    refine ⟨"tuple", _, PyProof.Rows.slot_tuple_getitem.lookup, ht.typeIs, ?_⟩
    refine HT.getItem_tuple_cut ht hs pl pu (by rw [hlen]; exact hw) ?_ (by rw [hlen]; exact hz)
    rw [hlen]
    have rr := (r.drop (HT.sIx xs.length 0 lo)).take (HT.sIx xs.length xs.length hi - HT.sIx xs.length 0 lo)
    refine ⟨.ref s.heap.objs.size, upd H s.heap.objs.size _, I.laid (t' := s.toks) (fun b ob q => Heap.get?_push_of_some _ q) (Nat.le_refl _) ?_, rfl, q2 hw _ { cls := .type "tuple", data := .seq (List.take (HT.sIx xs.length xs.length hi - HT.sIx xs.length 0 lo) (List.drop (HT.sIx xs.length 0 lo) its.toArray.toList)).toArray } (I.hok.fresh (Nat.le_refl _)) rfl⟩
    exact ⟨Heap.get?_push_size _ (by first | rfl | simp), Nat.le_trans (cutV_length xs lo hi) hz, _, rr, ⟨_, Heap.get?_push_size _ rfl, rfl, _, rfl⟩⟩
theorem slF {K : PySem.W.Frag} {H : Hp} {Q : VK} {a : Addr} {xs : List V} {lo hi : Option Int} (e : FT H a xs) (q : ∀ b H', Same H H' → FT H' b (cutV xs lo hi) → Q (.ref b) H') : rSlF K (.ref a) lo hi H Q := by
  refine ⟨a, xs, rfl, e.sqT, fun hw => ?_, fun _ p o np no => q p _ (same_new np) ⟨o, upd_same, no⟩⟩
  refine q a H (fun _ _ e => e) ?_
  have : cutV xs lo hi = xs := by
    unfold cutV
    rw [hw.1, hw.2, List.drop_zero, Nat.sub_zero, List.take_length]
  rw [this]
  exact e
theorem catFF {K : PySem.W.Frag} {H : Hp} {Q : VK} {a b : Addr} {xs ys : List V} (ea : FT H a xs) (eb : FT H b ys) (l : xs.length + ys.length ≤ sizeLine) (q : ∀ c H', Same H H' → FT H' c (xs ++ ys) → Q (.ref c) H') : rCatF K (.ref a) (.ref b) H Q := by
  refine ⟨a, b, xs, ys, rfl, rfl, ea.sqT, eb.sqT, l, fun e => ?_, fun e1 e2 => ?_, fun _ _ p o np no => q p _ (same_new np) ⟨o, upd_same, no⟩⟩
  · subst e
    exact q b H (fun _ _ z => z) eb
  · subst e2
    exact q a H (fun _ _ z => z) (by rw [List.append_nil]; exact ea)
/-! ### things -/
mutual
inductive Th (N : Addr → Prop) (H : Hp) : V → PyData → Prop
  | str {s : Str} (h : PyData.strOk s = true) : Th N H (.str s) (.str s)
  | non : Th N H .non .none
  | bl (b : Bool) : Th N H (.bl b) (.bool b)
  | int (i : Int) : Th N H (.int i) (.int i)
  | tup {u : Addr} {vs : List V} {ds : List PyData} (e : FT H u vs) (q : ThAll N H vs ds) : Th N H (.ref u) (.tuple ds)
  | lst {u : Addr} {vs : List V} {ds : List PyData} (n : N u) (e : H u = some (.lst vs)) (q : ThAll N H vs ds) : Th N H (.ref u) (.list ds)
  | dct {u : Addr} (n : N u) (e : H u = some (.dK [])) : Th N H (.ref u) (.dict [])
inductive ThAll (N : Addr → Prop) (H : Hp) : List V → List PyData → Prop
  | nil : ThAll N H [] []
  | cons {v : V} {d : PyData} {vs : List V} {ds : List PyData} (h : Th N H v d) (q : ThAll N H vs ds) : ThAll N H (v :: vs) (d :: ds)
end
section
variable {N N' : Addr → Prop} {K : PySem.W.Frag} {H H' : Hp}
mutual
theorem Th.move (n : ∀ a, N a → N' a) (f : ∀ a xs, FT H a xs → FT H' a xs) (s : ∀ a o, N a → H a = some o → H' a = some o) : ∀ {v : V} {d : PyData}, Th N H v d → Th N' H' v d
  | _, _, .str h => .str h
  | _, _, .non => .non
  | _, _, .bl b => .bl b
  | _, _, .int i => .int i
  | _, _, .tup e q => .tup (f _ _ e) (ThAll.move n f s q)
  | _, _, .lst m e q => .lst (n _ m) (s _ _ m e) (ThAll.move n f s q)
  | _, _, .dct m e => .dct (n _ m) (s _ _ m e)
theorem ThAll.move (n : ∀ a, N a → N' a) (f : ∀ a xs, FT H a xs → FT H' a xs) (s : ∀ a o, N a → H a = some o → H' a = some o) : ∀ {vs : List V} {ds : List PyData}, ThAll N H vs ds → ThAll N' H' vs ds
  | _, _, .nil => .nil
  | _, _, .cons h q => .cons (Th.move n f s h) (ThAll.move n f s q)
end
theorem Th.same (s : Same H H') {v : V} {d : PyData} (h : Th N H v d) : Th N H' v d := h.move (fun _ z => z) (fun _ _ z => z.same s) fun a o _ e => s _ _ e
theorem ThAll.same (s : Same H H') {vs : List V} {ds : List PyData} (h : ThAll N H vs ds) : ThAll N H' vs ds := h.move (fun _ z => z) (fun _ _ z => z.same s) fun a o _ e => s _ _ e
theorem ThAll.length : ∀ {vs : List V} {ds : List PyData}, ThAll N H vs ds → vs.length = ds.length
  | _, _, .nil => rfl
  | _, _, .cons _ q => by rw [List.length_cons, List.length_cons, q.length]
theorem ThAll.at : ∀ {vs : List V} {ds : List PyData} {i : Nat} {v : V}, ThAll N H vs ds → vs[i]? = some v → ∃ d, ds[i]? = some d ∧ Th N H v d
  | _, _, 0, _, .cons (d := d) h q, m => by cases m; exact ⟨d, rfl, h⟩
  | _, _, i + 1, _, .cons h q, m => by
    obtain ⟨d, h1, h2⟩ := q.at (i := i) (by simpa using m)
    exact ⟨d, by simpa using h1, h2⟩
theorem ThAll.append : ∀ {vs ws : List V} {ds es : List PyData}, ThAll N H vs ds → ThAll N H ws es → ThAll N H (vs ++ ws) (ds ++ es)
  | _, _, _, _, .nil, r => r
  | _, _, _, _, .cons e q, r => .cons e (q.append r)
theorem ThAll.take : ∀ {vs : List V} {ds : List PyData} (k : Nat), ThAll N H vs ds → ThAll N H (vs.take k) (ds.take k)
  | _, _, 0, _ => .nil
  | _, _, _ + 1, .nil => .nil
  | _, _, k + 1, .cons e q => .cons e (q.take k)
theorem ThAll.drop : ∀ {vs : List V} {ds : List PyData} (k : Nat), ThAll N H vs ds → ThAll N H (vs.drop k) (ds.drop k)
  | _, _, 0, h => h
  | _, _, _ + 1, .nil => .nil
  | _, _, k + 1, .cons e q => q.drop k
theorem ThAll.mem : ∀ {vs : List V} {ds : List PyData} {v : V}, ThAll N H vs ds → v ∈ vs → ∃ d ∈ ds, Th N H v d
  | _, _, _, .cons h q, m => by
    rcases List.mem_cons.mp m with rfl | m
    · exact ⟨_, List.mem_cons_self, h⟩
    · obtain ⟨d, hd, hh⟩ := q.mem m
      exact ⟨d, List.mem_cons_of_mem _ hd, hh⟩
theorem ThAll.strs {xs : List Str} (h : ∀ s ∈ xs, PyData.strOk s = true) : ThAll N H (xs.map V.str) (xs.map PyData.str) := by
  induction xs with
  | nil => exact .nil
  | cons x xs ih => exact .cons (.str (h x List.mem_cons_self)) (ih fun s m => h s (List.mem_cons_of_mem _ m))
mutual
theorem Th.dq : ∀ {v : V} {d : PyData}, Th N H v d → Dq anyA K H v d
  | _, _, .str _ => .str _
  | _, _, .non => .non
  | _, _, .bl b => .bl b
  | _, _, .int i => .int i
  | _, _, .tup e q => .tup trivial e.sqT q.dq
  | _, _, .lst _ e q => .lst trivial (.inl (.inl e)) q.dq
  | _, _, .dct _ e => .dct trivial (.inl e) .nil
theorem ThAll.dq : ∀ {vs : List V} {ds : List PyData}, ThAll N H vs ds → DqAll anyA K H vs ds
  | _, _, .nil => .nil
  | _, _, .cons h q => .cons h.dq q.dq
end
def tyName : PyData → String
  | .str _ => "str"
  | .none => "NoneType"
  | .bool _ => "bool"
  | .int _ => "int"
  | .tuple _ => "tuple"
  | .list _ => "list"
  | .dict _ => "dict"
theorem FT.ty {a : Addr} {xs : List V} (e : FT H a xs) : TyX K H (.ref a) (.type "tuple") := by
  obtain ⟨o, e, _⟩ := e
  exact .fTuple e
theorem Th.ty {v : V} {d : PyData} (h : Th N H v d) : TyX K H v (.type (tyName d)) := by
  cases h with
  | str h => exact .base (.str _)
  | non => exact .base .non
  | bl b => exact .base (.bl b)
  | int i => exact .base (.int i)
  | tup e q => exact e.ty
  | lst n e q => exact .base (.lst e)
  | dct n e => exact .base (.dK e)
/-- a thing is this text -/
def isS : PyData → Str → Bool
  | .str x => fun s => decide (s = x)
  | _ => fun _ => false
theorem Th.hit {v : V} {d : PyData} (h : Th N H v d) : HitV K H v (isS d) := by
  cases h with
  | @str x h => exact .str x
  | non => exact .non
  | bl b => exact .bl b
  | int i => exact .int i
  | tup e q => exact .tup e.sqT
  | lst n e q => exact .lst (.inl (.inl e))
  | dct n e => exact .dK (.inl e)
/-- isinstance of a thing -/
def isTy (T : String) (d : PyData) : Bool := match T with
  | "int" => decide (tyName d = "int") || decide (tyName d = "bool")
  | _ => decide (tyName d = T)
theorem Th.isT {v : V} {d : PyData} {T : String} {Q : VK} (h : Th N H v d) (hT : T = "tuple" ∨ T = "int" ∨ T = "bool" ∨ T = "str") (q : Q (.bl (isTy T d)) H) : rIsAny K [v, .ty T] H Q := by
  have ty : TyX K H v (.type (tyName d)) := h.ty
  refine .inr (.inl ⟨v, .ty T, .type (tyName d), .type T, isTy T d, rfl, .ty _, ty, ?_, q⟩)
  rcases hT with rfl | rfl | rfl | rfl <;> cases h <;> rfl
end
end Wd

set_option Elab.async false
set_option linter.all false
set_option maxRecDepth 100000
set_option maxHeartbeats 4000000
/-! What is a stand, of things of any kind, as data. -/
namespace Wd
open PySem PySem.Spec PyProof.Rows L2
def wholeB : PyData → Bool
  | .int _ => true
  | _ => false
def wholeIn (n : Nat) : PyData → Bool
  | .int i => decide (0 ≤ i) && decide (i < (n : Int))
  | _ => false
def arePl (many : Nat) (names : List Str) : PyData → Bool
  | .tuple ds => decide (ds.length = many) && ds.all fun q => names.any (isS q)
  | _ => false
def textsB (many : Nat) : PyData → Bool
  | .tuple ds => decide (ds.length = many) && ds.all fun q => isTy "str" q
  | _ => false
def strOf : PyData → Str
  | .str s => s
  | _ => Str.empty
def strsOf : PyData → List Str
  | .tuple ds => ds.map strOf
  | _ => []
def standB (x : HallH) : PyData → Bool
  | .tuple [t, r, p] => wholeIn x.walkers.length t && (arePl x.walkers.length x.rooms r && (arePl x.stones.length (x.rooms ++ x.walkers.map WalkH.name) p && x.walkers.all fun z => decide (((strsOf p).count z.name : Int) ≤ z.hands)))
  | _ => false
section
variable {N : Addr → Prop} {H : Hp}
theorem strs_all : ∀ {vs : List V} {ds : List PyData}, ThAll N H vs ds → ds.all (fun q => isTy "str" q) = true → ds = (ds.map strOf).map PyData.str ∧ vs = (ds.map strOf).map V.str
  | _, _, .nil, _ => ⟨rfl, rfl⟩
  | _, _, .cons h q, e => by
    rw [List.all_cons, Bool.and_eq_true] at e
    obtain ⟨i1, i2⟩ := strs_all q e.2
    cases h with
    | @str s h => exact ⟨by rw [List.map_cons, List.map_cons, ← i1]; rfl, by rw [List.map_cons, List.map_cons, ← i2]; rfl⟩
    | non => exact absurd e.1 (by decide)
    | bl b => exact absurd e.1 (by cases b <;> decide)
    | int i => exact absurd e.1 (by simp [isTy, tyName])
    | tup _ _ => exact absurd e.1 (by simp [isTy, tyName])
    | lst _ _ _ => exact absurd e.1 (by simp [isTy, tyName])
    | dct _ _ => exact absurd e.1 (by simp [isTy, tyName])
theorem isS_str {q : PyData} {names : List Str} (h : names.any (isS q) = true) : isTy "str" q = true ∧ strOf q ∈ names := by
  obtain ⟨y, hy, e⟩ := List.any_eq_true.mp h
  cases q with
  | str s =>
    have e : y = s := of_decide_eq_true e
    exact ⟨rfl, by rw [← e]; exact hy⟩
  | _ => cases e
theorem arePl_texts {many : Nat} {names : List Str} {d : PyData} (h : arePl many names d = true) : textsB many d = true := by
  cases d with
  | tuple ds =>
    unfold arePl at h
    unfold textsB
    rw [Bool.and_eq_true] at h ⊢
    refine ⟨h.1, List.all_eq_true.mpr fun q hq => (isS_str (List.all_eq_true.mp h.2 q hq)).1⟩
  | _ => cases h
/-- a tuple of texts, and what it is -/
theorem texts_inv {v : V} {d : PyData} {many : Nat} (h : Th N H v d) (e : textsB many d = true) : ∃ (u : Addr) (xs : List Str), v = .ref u ∧ d = .tuple (xs.map PyData.str) ∧ FT H u (xs.map V.str) ∧ xs.length = many ∧ strsOf d = xs := by
  cases h with
  | @tup u vs ds f q =>
    unfold textsB at e
    rw [Bool.and_eq_true] at e
    obtain ⟨i1, i2⟩ := strs_all q e.2
    refine ⟨u, ds.map strOf, rfl, congrArg PyData.tuple i1, by rw [← i2]; exact f, by rw [List.length_map]; exact of_decide_eq_true e.1, rfl⟩
  | _ => cases e
end
end Wd

set_option Elab.async false
set_option linter.all false
set_option maxRecDepth 100000
set_option maxHeartbeats 4000000
namespace Wd
open PySem PySem.Spec PyProof.Rows L2
abbrev s_is_whole : Stmt := topS 8
theorem sc_is_whole : FnScope ["thing"] ["thing"] (C8.fnScope s_is_whole) := ⟨rfl, rfl, rfl, by decide +kernel, rfl, by decide +kernel, by decide +kernel⟩
theorem truBo {K : PySem.W.Frag} {H : Hp} {k : Bool} : TruV K (.bl k) H k := by
  simp [TruV]
section
variable {P : Program} {w : World} {K : PySem.W.Frag} {mg : Str → Option Value} {base : Heap}
theorem eqL {K : PySem.W.Frag} {i j : Int} {H : Hp} {Q : VK} (q : Q (.bl (decide (i = j))) H) : rEqX K (.int i) (.int j) H Q := .inl ⟨rfl, by
  have : decide (V.int i = V.int j) = decide (i = j) := by
    by_cases c : i = j
    · rw [decide_eq_true c, decide_eq_true (by rw [c])]
    · rw [decide_eq_false c, decide_eq_false (fun e => c (by injection e))]
  rw [this]
  exact q⟩
theorem neL {K : PySem.W.Frag} {i j : Int} {H : Hp} {Q : VK} (q : Q (.bl (!decide (i = j))) H) : rNeX K (.int i) (.int j) H Q := .inl ⟨rfl, by
  have : decide (V.int i = V.int j) = decide (i = j) := by
    by_cases c : i = j
    · rw [decide_eq_true c, decide_eq_true (by rw [c])]
    · rw [decide_eq_false c, decide_eq_false (fun e => c (by injection e))]
  rw [this]
  exact q⟩
/-- anything: is it a whole number -/
def spWholeA : Sp := fun vs H Q _ => ∃ (N : Addr → Prop) (v : V) (d : PyData), vs = [v] ∧ Th N H v d ∧ Q (.bl (wholeB d)) H
theorem c_wholeA {c : CA} (T : Txt P w K mg base c) (hBool : mg "bool" = none) {f : Addr} {fd : FuncData} (F : C8.Def K mg "is_whole" s_is_whole f fd) (b : Binds K fd ["thing"] []) : C8.Cal P w K mg base 1 "is_whole" spWholeA [] := by
  refine C8.cal0 F b .nil sc_is_whole (fun vs H Q E h => ?_) (fun cdv A outer s H vs Q E hr h => ?_)
  · obtain ⟨N, v, d, rfl, _⟩ := h
    rfl
  · obtain ⟨N, v, d, rfl, th, q⟩ := h
    have hu := hu_of hr
    have hu6 := hu64 hr
    refine ⟨_, (pss_one (ps_ret (pe_andK (K := K) (pe_callB (call_isAny) (by rfl) T.b_isinstance bt_isinstance (pa_cons (pv 0) (pa_cons (pe_bltn (v := .ty "int") (by rfl) T.b_int (by decide +kernel) rfl) pa_nil))) (pe_one (pe_notK (K := K) (pe_callB (call_isAny) (by rfl) T.b_isinstance bt_isinstance (pa_cons (pv 0) (pa_cons (pe_bltn (v := .ty "bool") (by rfl) hBool (by decide +kernel) rfl) pa_nil)))))))), ?_⟩
    refine ⟨v, rfl, th.isT (.inr (.inl rfl)) ⟨_, truBo, ?_⟩⟩
    have e : wholeB d = (isTy "int" d && !isTy "bool" d) := by cases d <;> rfl
    rw [e] at q
    cases h1 : isTy "int" d with
    | false =>
      rw [h1] at q
      exact iteF q
    | true =>
      rw [h1] at q
      refine iteT ⟨v, rfl, th.isT (.inr (.inr (.inl rfl))) ?_⟩
      exact ⟨_, truBo, q⟩
end
end Wd

set_option Elab.async false
set_option linter.all false
set_option maxRecDepth 100000
set_option maxHeartbeats 4000000
namespace Wd
open PySem PySem.Spec PyProof.Rows L2
abbrev s_is_name : Stmt := topS 7
theorem sc_is_name : FnScope ["thing", "sign"] ["thing"] (C8.fnScope s_is_name) := ⟨rfl, rfl, rfl, by decide +kernel, rfl, by decide +kernel, by decide +kernel⟩
def LET : Str := Str.ofString "abcdefghijklmnopqrstuvwxyz"
theorem let_mem (c : Nat) : c ∈ LET.cps.toList ↔ 97 ≤ c ∧ c ≤ 122 := by
  have e : LET.cps.toList = [97, 98, 99, 100, 101, 102, 103, 104, 105, 106, 107, 108, 109, 110, 111, 112, 113, 114, 115, 116, 117, 118, 119, 120, 121, 122] := by decide +kernel
  rw [e]
  simp only [List.mem_cons, List.not_mem_nil, or_false]
  omega
theorem name_dec {z : Str} (h1 : 1 ≤ z.length) (h2 : z.length ≤ 8) : decide (NameOk z) = (z.cps.toList.map fun c => decide (c ∈ LET.cps.toList)).all id := by
  have l : z.length = z.cps.toList.length := by simp [Str.length]
  rw [Bool.eq_iff_iff, decide_eq_true_iff, List.all_eq_true]
  constructor
  · intro h b hb
    obtain ⟨c, hc, rfl⟩ := List.mem_map.mp hb
    exact decide_eq_true ((let_mem c).mpr (h.2.2 c hc))
  · intro h
    refine ⟨by omega, by omega, fun c hc => (let_mem c).mp (of_decide_eq_true (h _ (List.mem_map.mpr ⟨c, hc, rfl⟩)))⟩
theorem hit_ty' {K : PySem.W.Frag} {H : Hp} {x : V} {hit : Str → Bool} (h : HitV K H x hit) : (∃ a, x = .str a ∧ hit = fun y => decide (y = a)) ∨ ∃ t, TyX K H x t ∧ PySem.W.kitOne K t (.type "str") = some false := by
  cases h with
  | str a => exact .inl ⟨a, rfl, rfl⟩
  | non => exact .inr ⟨_, .base .non, rfl⟩
  | bl b => exact .inr ⟨_, .base (.bl b), rfl⟩
  | int i => exact .inr ⟨_, .base (.int i), rfl⟩
  | lst e =>
    rcases e with (e | ⟨o, e⟩) | ⟨o, its, n, e1, e2, _⟩
    · exact .inr ⟨_, .base (.lst e), rfl⟩
    · exact .inr ⟨_, .base (.frz e), rfl⟩
    · exact .inr ⟨_, .kList e1 e2, rfl⟩
  | tup e =>
    rcases e with (e | ⟨o, e⟩) | ⟨o, its, n, e1, e2, _⟩
    · exact .inr ⟨_, .base (.tup e), rfl⟩
    · exact .inr ⟨_, .fTuple e, rfl⟩
    · exact .inr ⟨_, .kTuple e1 e2, rfl⟩
  | dK e =>
    rcases e with e | ⟨o, e⟩
    · exact .inr ⟨_, .base (.dK e), rfl⟩
    · exact .inr ⟨_, .fDict e, rfl⟩
section
variable {P : Program} {w : World} {K : PySem.W.Frag} {mg : Str → Option Value} {base : Heap}
def spIsName (K : PySem.W.Frag) : Sp := fun vs H Q _ => ∃ (y : V) (hit : Str → Bool), vs = [y] ∧ HitV K H y hit ∧ ((∃ z, y = .str z ∧ z.length ≤ 100000 ∧ ∀ H', Same H H' → Q (.bl (decide (NameOk z))) H') ∨ ((∀ z, y ≠ .str z) ∧ Q (.bl false) H))
theorem c_isname {c : CA} {tL tM : Tok} (T : Txt P w K mg base c) (hL : mg "LETTERS" = some (.str LET tL)) (hAll : mg "all" = none) (hM : mg "LONGEST_NAME" = some (.int 8 tM)) {f : Addr} {fd : FuncData} (F : C8.Def K mg "is_name" s_is_name f fd) (b : Binds K fd ["thing"] []) : C8.Cal P w K mg base 1 "is_name" (spIsName K) [] := by
  refine C8.cal0 F b .nil sc_is_name (fun vs H Q E h => ?_) (fun cdv A outer s H vs Q E hr h => ?_)
  · obtain ⟨y, hit, rfl, _⟩ := h
    rfl
  · obtain ⟨y, hit, rfl, hh, q⟩ := h
    have hu := hu_of hr
    have hu6 := hu64 hr
    refine ⟨_, (pss_cons (ps_if (PW.pt (pw_or (pt_not (pt_truK (K := K) (pe_callB (call_isAny) (by rfl) T.b_isinstance bt_isinstance (pa_cons (pv 0) (pa_cons (pe_bltn (v := .ty "str") (by rfl) T.b_str (by decide +kernel) rfl) pa_nil))) (fun _ => rfl))) (pw_or1 (pt_not (pt_chain op_le op_le pe_int (pe_callB (call_lenG (K := K)) (by rfl) T.b_len bt_len (pa_cons (pv 0) pa_nil)) (pe_glob (v := .int 8) (by rfl) hM ⟨tM, rfl⟩)))))) (pss_one (ps_ret pe_bl)) pss_nil)
  (pss_one (ps_ret (pe_callB (cr_all rfl) (by rfl) hAll (by rfl) (pa_cons (pe_lc (own := [("sign", 1)]) rfl sc_is_name.nd (pi_str (pv 0)) (blkOk_by (by kernel_rfl)) (fun _ _ _ _ _ => (pg_name (i := 1) sc_is_name.nd rfl (.inl rfl))) (fun _ _ _ _ _ => pts_nil)
      (fun _ _ _ _ _ => (pe_cmpR (op_in_sign) (pv 1) (pe_glob (v := .str LET) (by rfl) hL ⟨tL, rfl⟩) (by rfl)))) pa_nil))))), ?_⟩
    rcases q with ⟨z, rfl, zl, q⟩ | ⟨ny, q⟩
    · refine ⟨.str z, rfl, .inr (.inl ⟨.str z, .ty "str", .type "str", .type "str", true, rfl, .ty _, .base (.str _), rfl, true, rfl, ?_⟩)⟩
      refine iteF ?_
      have zs : z.length ≤ sizeLine := by rw [sizeLine_eq]; omega
      have l0 : z.cps.size = z.length := rfl
      have i0 : ((1 : Int) ≤ (z.length : Int)) = ((1 : Nat) ≤ z.length) := by rw [eq_iff_iff]; omega
      have i8 : ((z.length : Int) ≤ (8 : Int)) = (z.length ≤ 8) := by rw [eq_iff_iff]; omega
      by_cases h1 : 1 ≤ z.length
      · by_cases h2 : z.length ≤ 8
        · refine ⟨.str z, rfl, zs, _, _, rfl, rfl, _, rfl, ?_⟩
          rw [show decide ((1 : Int) ≤ (z.length : Int)) = true from decide_eq_true (by omega)]
          refine iteT ⟨_, _, rfl, rfl, _, rfl, ?_⟩
          rw [show decide ((z.length : Int) ≤ (8 : Int)) = true from decide_eq_true (by omega)]
          refine iteF ⟨.str z, rfl, z, rfl, fun D nD => ?_⟩
          refine lc_it (walk_str (z := z)) (fun i Z => Same H Z ∧ Z D = some (.lst (((z.cps.toList.take i).map fun c => decide (c ∈ LET.cps.toList)).map V.bl))) ⟨same_new nD, upd_same⟩ (fun i Z _ pv => trivial) (fun i v Z Z' hi pv hy => ?_) (fun Z pv => ?_)
          · obtain ⟨sZ, z1⟩ := pv
            obtain ⟨rfl, ch, hc, rfl⟩ := hy
            have hc' : z.cps.toList[i]? = some ch := by rw [Array.getElem?_toList]; exact hc
            refine ⟨rfl, yes_if ⟨.str ⟨#[ch]⟩, by kernel_rfl, ch, LET, rfl, rfl, _, z1, by rw [List.length_map, List.length_map, List.length_take]; exact small1000000 (by omega), same_mut sZ nD, ?_⟩⟩
            rw [upd_same, take_snoc hc', List.map_append, List.map_append]
            rfl
          obtain ⟨sZ, z1⟩ := pv
          have e : z.cps.toList.take z.cps.size = z.cps.toList := List.take_of_length_le (by simp)
          rw [e] at z1
          refine ⟨D, _, rfl, .inl (.inl z1), ?_⟩
          rw [← name_dec h1 h2]
          exact q Z sZ
        · refine ⟨.str z, rfl, zs, _, _, rfl, rfl, _, rfl, ?_⟩
          rw [show decide ((1 : Int) ≤ (z.length : Int)) = true from decide_eq_true (by omega)]
          refine iteT ⟨_, _, rfl, rfl, _, rfl, ?_⟩
          rw [show decide ((z.length : Int) ≤ (8 : Int)) = false from decide_eq_false (by omega)]
          have nn : decide (NameOk z) = false := decide_eq_false fun n => h2 (name_len n).2
          have := q H (fun _ _ e => e)
          rw [nn] at this
          exact iteT this
      · refine ⟨.str z, rfl, zs, _, _, rfl, rfl, _, rfl, ?_⟩
        rw [show decide ((1 : Int) ≤ (z.length : Int)) = false from decide_eq_false (by omega)]
        have nn : decide (NameOk z) = false := decide_eq_false fun n => h1 (name_len n).1
        have := q H (fun _ _ e => e)
        rw [nn] at this
        exact iteF ⟨_, rfl, iteT this⟩
    · rcases hit_ty' hh with ⟨nm, rfl, rfl⟩ | ⟨t, ty, kt⟩
      · exact absurd rfl (ny nm)
      · exact ⟨y, rfl, .inr (.inl ⟨y, .ty "str", t, .type "str", false, rfl, .ty _, ty, kt, false, rfl, iteT q⟩)⟩
end
end Wd

set_option Elab.async false
set_option linter.all false
set_option maxRecDepth 100000
set_option maxHeartbeats 4000000
/-! Things of few parts: how short they show; all but the pen is kept. -/
namespace Wd
open PySem PySem.Spec PyProof.Rows L2
structure Nt (w dp : Nat) (d : PyData) : Prop where
  short : d.leavesShort 40 = true
  show_ : d.showable = true
  wt : d.weight ≤ w
  dp : d.depth ≤ dp
theorem Nt.mono {w w' dp dp' : Nat} {d : PyData} (n : Nt w dp d) (h : w ≤ w') (h2 : dp ≤ dp') : Nt w' dp' d := ⟨n.short, n.show_, Nat.le_trans n.wt h, Nat.le_trans n.dp h2⟩
theorem Nt.repr {w dp : Nat} {d : PyData} (n : Nt w dp d) (hw : w ≤ 2 ^ 16) (hd : dp ≤ 60) : d.showable = true ∧ d.shown.length ≤ sizeLine ∧ d.depth ≤ 60 := by
  refine ⟨n.show_, ?_, Nat.le_trans n.dp hd⟩
  have h := PyData.shown_le 40 (by decide) d n.short
  have h2 : (40 + 2) * d.weight ≤ 42 * 65536 := Nat.mul_le_mul (by decide) (Nat.le_trans n.wt hw)
  rw [sizeLine_eq]
  omega
theorem nt_all {w dp : Nat} : ∀ {ds : List PyData}, (∀ d ∈ ds, Nt w dp d) → PyData.leavesShortAll 40 ds = true ∧ PyData.showableAll ds = true ∧ PyData.weightAll ds ≤ (w + 1) * ds.length ∧ PyData.depthAll ds ≤ dp
  | [], _ => ⟨rfl, rfl, by simp [PyData.weightAll], by simp [PyData.depthAll]⟩
  | d :: ds, h => by
    have n := h d (List.mem_cons_self ..)
    obtain ⟨a, b, c, e⟩ := nt_all fun x hx => h x (List.mem_cons_of_mem _ hx)
    refine ⟨?_, ?_, ?_, ?_⟩
    · simp [PyData.leavesShortAll, n.short, a]
    · simp [PyData.showableAll, n.show_, b]
    · simp only [PyData.weightAll, List.length_cons]
      have := n.wt
      rw [Nat.mul_succ]
      omega
    · simp only [PyData.depthAll]
      have := n.dp
      omega
theorem nt_lst {w dp m : Nat} {ds : List PyData} (h : ∀ d ∈ ds, Nt w dp d) (hm : ds.length ≤ m) : Nt ((w + 1) * m) (dp + 1) (.list ds) := by
  obtain ⟨a, b, c, e⟩ := nt_all h
  refine ⟨by rw [PyData.leavesShort]; exact a, by rw [PyData.showable]; exact b, ?_, by rw [PyData.depth]; omega⟩
  rw [PyData.weight]
  exact Nat.le_trans c (Nat.mul_le_mul_left _ hm)
theorem nt_tup {w dp m : Nat} {ds : List PyData} (h : ∀ d ∈ ds, Nt w dp d) (hm : ds.length ≤ m) : Nt ((w + 1) * m) (dp + 1) (.tuple ds) := by
  obtain ⟨a, b, c, e⟩ := nt_all h
  refine ⟨by rw [PyData.leavesShort]; exact a, by rw [PyData.showable]; exact b, ?_, by rw [PyData.depth]; omega⟩
  rw [PyData.weight]
  exact Nat.le_trans c (Nat.mul_le_mul_left _ hm)
theorem nt_txt {s : Str} (h : TxtD s) : Nt 140 1 (.str s) := ⟨h.1.short, h.1.show_, Nat.le_trans h.1.wt (by decide), Nat.le_trans h.1.dp (by decide)⟩
theorem nt_int {i : Int} (h : i.natAbs < 10 ^ 39) : Nt 140 1 (.int i) := by
  have l2 : i.natAbs.log2 ≤ 138 := by
    by_cases z : i.natAbs = 0
    · rw [z]; decide
    · exact Nat.le_of_lt ((Nat.log2_lt z).mpr (Nat.lt_trans h (by decide)))
  refine ⟨?_, ?_, ?_, by simp [PyData.depth]⟩
  · show decide _ = true
    refine decide_eq_true ?_
    have e := int_text_length_le10 (k := 39) (by decide) h
    show (Str.ofString (toString i)).length ≤ 40
    rw [PySem.ofString_length]
    exact e
  · show decide _ = true
    exact decide_eq_true (by omega)
  · show (if i == 0 then 0 else i.natAbs.log2 + 1) ≤ 140
    split <;> omega
def isSeq : PyData → Bool
  | .tuple _ => true
  | .list _ => true
  | _ => false
def Atm (d : PyData) : Prop := Nt 140 1 d ∧ isSeq d = false
theorem atm_str {s : Str} (h : TxtD s) : Atm (.str s) := ⟨nt_txt h, rfl⟩
theorem atm_non : Atm .none := ⟨⟨rfl, rfl, by decide, by decide⟩, rfl⟩
theorem atm_bl (b : Bool) : Atm (.bool b) := ⟨by cases b <;> exact ⟨rfl, rfl, by decide, by decide⟩, rfl⟩
theorem atm_int {i : Int} (h : i.natAbs < 10 ^ 39) : Atm (.int i) := ⟨nt_int h, rfl⟩
theorem atm_dct : Atm (.dict []) := ⟨⟨rfl, rfl, by decide, by decide⟩, rfl⟩
/-- of so many parts, of so many parts -/
def Wi : List Nat → PyData → Prop
  | [], d => Atm d
  | n :: ns, d => Atm d ∨ ∃ ds, (d = .tuple ds ∨ d = .list ds) ∧ ds.length ≤ n ∧ ∀ x ∈ ds, Wi ns x
theorem Atm.wi {d : PyData} (h : Atm d) : ∀ {ns : List Nat}, Wi ns d
  | [] => h
  | _ :: _ => .inl h
theorem wi_tup {n : Nat} {ns : List Nat} {ds : List PyData} (l : ds.length ≤ n) (h : ∀ x ∈ ds, Wi ns x) : Wi (n :: ns) (.tuple ds) := .inr ⟨ds, .inl rfl, l, h⟩
theorem wi_lst {n : Nat} {ns : List Nat} {ds : List PyData} (l : ds.length ≤ n) (h : ∀ x ∈ ds, Wi ns x) : Wi (n :: ns) (.list ds) := .inr ⟨ds, .inr rfl, l, h⟩
theorem wi_inv {n : Nat} {ns : List Nat} {ds : List PyData} (h : Wi (n :: ns) (.tuple ds)) : ds.length ≤ n ∧ ∀ x ∈ ds, Wi ns x := by
  rcases h with h | ⟨es, h1 | h1, h2, h3⟩
  · exact nomatch h.2
  · injection h1 with e
    subst e
    exact ⟨h2, h3⟩
  · cases h1
theorem wi_le {n m : Nat} {ns ms : List Nat} {d : PyData} (h : Wi (n :: ns) d) (l : n ≤ m) (i : ∀ x, Wi ns x → Wi ms x) : Wi (m :: ms) d := by
  rcases h with h | ⟨es, h1, h2, h3⟩
  · exact h.wi
  · exact .inr ⟨es, h1, Nat.le_trans h2 l, fun x hx => i x (h3 x hx)⟩
theorem wi_odd {n : Nat} {d : PyData} (h : Wi [1] d) (l : 1 ≤ n) : Wi [n, 1] d := wi_le h l fun x hx => Atm.wi hx
theorem wi_part {m n : Nat} {d : PyData} (h : Wi [m, 1] d) (l : m ≤ n) : Wi [n, 1] d := wi_le h l fun x hx => hx
theorem wi_whole {m n m' n' : Nat} {d : PyData} (h : Wi [m, n, 1] d) (l : m ≤ m') (l2 : n ≤ n') : Wi [m', n', 1] d := wi_le h l fun x hx => wi_part hx l2
theorem wi_nt {n w dp : Nat} {ns : List Nat} {d : PyData} (h : Wi (n :: ns) d) (i : ∀ x, Wi ns x → Nt w dp x) (w1 : 140 ≤ (w + 1) * n) (d1 : 1 ≤ dp + 1) : Nt ((w + 1) * n) (dp + 1) d := by
  rcases h with h | ⟨es, rfl | rfl, h2, h3⟩
  · exact h.1.mono w1 d1
  · exact nt_tup (fun x hx => i x (h3 x hx)) h2
  · exact nt_lst (fun x hx => i x (h3 x hx)) h2
theorem wi_nt3 {d : PyData} (h : Wi [5, 48, 1] d) : Nt 34085 4 d :=
  (wi_nt (w := 6816) (dp := 3) h (fun x hx => (wi_nt (w := 141) (dp := 2) hx (fun y hy => (wi_nt (w := 140) (dp := 1) hy (fun z hz => hz.1) (by decide) (by decide))) (by decide) (by decide))) (by decide) (by decide))
theorem Th.wi_repr {N : Addr → Prop} {H : Hp} {v : V} {d : PyData} {m n : Nat} (h : Wi [m, n, 1] d) (hm : m ≤ 5) (hn : n ≤ 48) : d.showable = true ∧ d.shown.length ≤ sizeLine ∧ d.depth ≤ 60 :=
  (wi_nt3 (wi_whole h hm hn)).repr (by decide) (by decide)
end Wd

set_option Elab.async false
set_option linter.all false
set_option maxRecDepth 100000
set_option maxHeartbeats 4000000
/-! x == text, x of any kind. -/
namespace Wd
open PySem PySem.Spec PyProof.Rows L2 PySem.SeqAt
section
variable {A : Around} {s : Shared}
theorem rcat_dict_str {l : Addr} {o : Obj} {es : Array DictEntry} {n : Nat} (b : Str) (u : Tok) (ho : s.heap.get? l = some o) (hx : o.cls = .type "dict") (hd : o.data = .dict es n) (hu : A.units < cLine) : RcAt A s (.ref l) (.str b u) false := fun prog w E Q h => by
  obtain ⟨cls, dd, data, sl⟩ := o
  simp only at hx hd
  subst hx hd
  exact rc_eq_decline_or (k := false) ⟨_, ho, rfl⟩ (typeIs_str s b u) (by decide) F.sub_str_dict F.slot_dict_eq_refl F.slot_str_eq
    (fun _ hq => call_meets F.slot_dict_eq_refl ⟨_, ho, rfl⟩ F.entry_dict_eq (F.args_dict_eq_2 _ _) (dict_declines_str l es n dd sl b u) ⟨ho, hq⟩)
    (fun _ hq => call_meets F.slot_str_eq (typeIs_str s b u) F.entry_str_eq (F.args_str_eq_2 _ _) (str_declines_dict b u l (.type "dict") es n dd sl) ⟨ho, hq⟩)
    (fun _ hq => wpAny_of_eq (rfl : isSame (.ref l) (.str b u) = pure false) hq) (.inr hu) h
end
section
variable {X : Cx}
def rEqT (K : PySem.W.Frag) : R2 := fun x y H Q => ∃ (hit : Str → Bool) (t : Str), y = .str t ∧ HitV K H x hit ∧ Q (.bl (hit t)) H
theorem op_eqT {K : PySem.W.Frag} (hu : X.A.units + 64 < cLine) (hK : X.K = K := by rfl) : OpR X (compareOp .Eq) (rEqT K) := by
  subst hK
  intro pins s σ H x y v u Q I rx ry h
  obtain ⟨hit, t, rfl, hh, q⟩ := h
  obtain ⟨tk, rfl⟩ := ry
  have hu1 : X.A.units < cLine := by omega
  cases hh with
  | str a =>
    obtain ⟨t2, rfl⟩ := rx
    have e : (a == t) = decide (t = a) := by
      by_cases c : t = a
      · subst c; simp
      · rw [decide_eq_false c]; exact beq_eq_false_iff_ne.mpr fun z => c z.symm
    have r := RcAt.str_str (A := X.A) (s := s) a t2 t tk
    rw [e] at r
    exact r X.prog X.w _ _ ⟨.bl _, H, I, rfl, q⟩
  | non =>
    obtain rfl : v = .none := rx
    exact RcAt.none_str t tk X.prog X.w _ _ ⟨.bl _, H, I, rfl, q⟩
  | bl b =>
    obtain rfl : v = .bool b := rx
    exact RcAt.bool_str b t tk X.prog X.w _ _ ⟨.bl _, H, I, rfl, q⟩
  | int i =>
    obtain ⟨t2, rfl⟩ := rx
    exact RcAt.int_str i t2 t tk X.prog X.w _ _ ⟨.bl _, H, I, rfl, q⟩
  | lst hs =>
    obtain rfl : v = .ref _ := rx
    obtain ⟨its, _, pl, _⟩ := I.list hs
    exact RcAt.list_str t tk pl.isList hu1 X.prog X.w _ _ ⟨.bl _, H, I, rfl, q⟩
  | tup hs =>
    obtain rfl : v = .ref _ := rx
    obtain ⟨its, _, pl, _⟩ := I.tuple hs
    exact RcAt.tuple_str t tk pl hu1 X.prog X.w _ _ ⟨.bl _, H, I, rfl, q⟩
  | dK hd =>
    obtain rfl : v = .ref _ := rx
    obtain ⟨o, es, n, e1, e2, e3⟩ := dict_obj I hd
    exact rcat_dict_str t tk e1 e2 e3 hu1 X.prog X.w _ _ ⟨.bl _, H, I, rfl, q⟩
end
end Wd

set_option Elab.async false
set_option linter.all false
set_option maxRecDepth 100000
set_option maxHeartbeats 4000000
/-! A tuple of anything != (); a list of anything == []. -/
namespace Wd
open PySem PySem.Spec PyProof.Rows L2 PySem.SeqAt
section
variable {X : Cx}
def rNe0 (K : PySem.W.Frag) : R2 := fun x y H Q => ∃ (a b : Addr) (xs : List V), x = .ref a ∧ y = .ref b ∧ SqT K H a xs ∧ SqT K H b [] ∧ Q (.bl (!(xs.length == 0))) H
theorem op_ne0 {K : PySem.W.Frag} (hu : X.A.units + 64 < cLine) (hK : X.K = K := by rfl) : OpR X (compareOp .NotEq) (rNe0 K) := by
  subst hK
  intro pins s σ H x y v u Q I rx ry h
  obtain ⟨a, b, xs, rfl, rfl, ha, hb, q⟩ := h
  obtain rfl : v = .ref a := rx
  obtain rfl : u = .ref b := ry
  obtain ⟨its, r1, p1, _⟩ := I.tuple ha
  obtain ⟨its2, r2, p2, _⟩ := I.tuple hb
  obtain rfl : its2 = [] := by cases r2; rfl
  refine RcNeAt.tuples (e := fun _ => true) p1 p2 (by omega) (fun j j1 j2 => absurd j2 (Nat.not_lt_zero _)) X.prog X.w _ _ ⟨.bl _, H, I, rfl, ?_⟩
  have es : its.toArray.size = its.length := List.size_toArray
  show Q (.bl (!((List.range (min its.toArray.size 0)).all (fun _ => true) && its.toArray.size == 0))) H
  rw [es, Nat.min_zero, ← r1.length]
  exact q
def rEqL0 (K : PySem.W.Frag) : R2 := fun x y H Q => ∃ (a b : Addr) (xs : List V), x = .ref a ∧ y = .ref b ∧ SqL K H a xs ∧ SqL K H b [] ∧ Q (.bl (xs.length == 0)) H
theorem op_eqL0 {K : PySem.W.Frag} (hu : X.A.units + 64 < cLine) (hK : X.K = K := by rfl) : OpR X (compareOp .Eq) (rEqL0 K) := by
  subst hK
  intro pins s σ H x y v u Q I rx ry h
  obtain ⟨a, b, xs, rfl, rfl, ha, hb, q⟩ := h
  obtain rfl : v = .ref a := rx
  obtain rfl : u = .ref b := ry
  obtain ⟨its, r1, p1, _⟩ := I.list ha
  obtain ⟨its2, r2, p2, _⟩ := I.list hb
  obtain rfl : its2 = [] := by cases r2; rfl
  have es : its.toArray.size = its.length := List.size_toArray
  by_cases c : its = []
  · subst c
    refine eq_listAt (e := fun _ => true) p1.isList p2.isList rfl (by omega) (fun j j1 j2 => absurd j2 (Nat.not_lt_zero _)) ⟨.bl _, H, I, rfl, ?_⟩
    have : xs = [] := by cases r1; rfl
    subst this
    exact q
  · have hl : its.length ≠ 0 := fun z => c (List.length_eq_zero_iff.mp z)
    refine eq_list_lengthsAt p1.isList p2.isList (by rw [es]; simpa using hl) (by omega) ⟨.bl _, H, I, rfl, ?_⟩
    have : (xs.length == 0) = false := by rw [r1.length]; simpa using hl
    rw [this] at q
    exact q
def rNeL0 (K : PySem.W.Frag) : R2 := fun x y H Q => ∃ (a b : Addr) (xs : List V), x = .ref a ∧ y = .ref b ∧ SqL K H a xs ∧ SqL K H b [] ∧ Q (.bl (!(xs.length == 0))) H
theorem op_neL0 {K : PySem.W.Frag} (hu : X.A.units + 64 < cLine) (hK : X.K = K := by rfl) : OpR X (compareOp .NotEq) (rNeL0 K) := by
  subst hK
  intro pins s σ H x y v u Q I rx ry h
  obtain ⟨a, b, xs, rfl, rfl, ha, hb, q⟩ := h
  obtain rfl : v = .ref a := rx
  obtain rfl : u = .ref b := ry
  obtain ⟨its, r1, p1, _⟩ := I.list ha
  obtain ⟨its2, r2, p2, _⟩ := I.list hb
  obtain rfl : its2 = [] := by cases r2; rfl
  have es : its.toArray.size = its.length := List.size_toArray
  by_cases c : its = []
  · subst c
    refine RcNeAt.lists (e := fun _ => true) p1.isList p2.isList rfl (by omega) (fun j j1 j2 => absurd j2 (Nat.not_lt_zero _)) X.prog X.w _ _ ⟨.bl _, H, I, rfl, ?_⟩
    have : xs = [] := by cases r1; rfl
    subst this
    exact q
  · have hl : its.length ≠ 0 := fun z => c (List.length_eq_zero_iff.mp z)
    refine RcNeAt.lists_lengths p1.isList p2.isList (by rw [es]; simpa using hl) (by omega) X.prog X.w _ _ ⟨.bl _, H, I, rfl, ?_⟩
    have : (xs.length == 0) = false := by rw [r1.length]; simpa using hl
    rw [this] at q
    exact q
theorem call_isAnyK {K : PySem.W.Frag} (hK : X.K = K := by rfl) : CallR X (.builtin "isinstance") (rIsAny K) := by
  subst hK
  exact call_isAny
end
end Wd

set_option Elab.async false
set_option linter.all false
set_option maxRecDepth 100000
set_option maxHeartbeats 4000000
/-! What is a wish, of things of any kind, as data. -/
namespace Wd
open PySem PySem.Spec PyProof.Rows L2
def nameD : PyData → Bool
  | .str z => decide (NameOk z)
  | _ => false
def bearB : PyData → Bool
  | .int i => decide (0 ≤ i) && decide (i ≤ 9999999)
  | _ => false
def wish2B (x : HallH) (w one other : PyData) : Bool :=
  if isS w (Str.ofString "at") then (x.walkers.map WalkH.name).any (isS one) && x.rooms.any (isS other)
  else if isS w (Str.ofString "lies") then (x.stones.map Prod.fst).any (isS one) && x.rooms.any (isS other)
  else if isS w (Str.ofString "held") then (x.stones.map Prod.fst).any (isS one) && (x.walkers.map WalkH.name).any (isS other)
  else if isS w (Str.ofString "bears") then x.rooms.any (isS one) && bearB other
  else false
def isWishB (x : HallH) : PyData → Bool
  | .tuple [w, d] => isS w (Str.ofString "open") && nameD d
  | .tuple [w, a, b] => wish2B x w a b
  | _ => false
/-- no part of it is a long text -/
def ShortD : PyData → Prop
  | .tuple ds => ∀ z, PyData.str z ∈ ds → z.length ≤ 100000
  | _ => True
theorem atm_short {z : Str} (h : Atm (.str z)) : z.length ≤ 100000 := by
  have : (PyData.str z).weight ≤ 140 := h.1.wt
  have e : (PyData.str z).weight = z.length := by rw [PyData.weight]; rfl
  omega
theorem wi_short {n : Nat} {d : PyData} (h : Wi [n, 1] d) : ShortD d := by
  cases d with
  | tuple ds =>
    intro z hz
    have := (wi_inv h).2 _ hz
    rcases this with h | ⟨es, h1 | h1, _⟩
    · exact atm_short h
    · cases h1
    · cases h1
  | _ => trivial
end Wd

set_option Elab.async false
set_option linter.all false
set_option maxRecDepth 100000
set_option maxHeartbeats 4000000
/-! Own errors of one field, raised; defs that may raise; a caught error that is kept behind its suite. -/
namespace Wd
open PySem PySem.Spec PyProof.Rows L2
/-- the promise of an __init__ of one field, told whole -/
def spI1x (K : PySem.W.Frag) (f : Str) : Sp := fun vs H Q _ => ∃ (a C : Addr) (y : V), vs = [.ref a, y] ∧ XcE K C ∧ PySem.W.findIn K (.ref C) f = some none ∧ H a = some (exo a C none) ∧
  ∀ H' d, Kp a H H' → H d = none → H' a = some (exo a C (some d)) → H' d = some (exd d [(f, y)]) → Q .non H'
def tMkX (C : Addr) (f : Str) (ta : TA) : L2.St → Hp → XK → Prop := fun σ H Q => ta σ H fun vs H1 => ∃ y, vs = [y] ∧ ∀ d H', H1 d = none → Same H1 H' → H' d = some (.xd [(f, y)]) → Q (.ref C) (some d) H'
section
variable {X : Cx} {k : Nat} {fI C : Addr} {fd : FuncData} {ps : List Str} {f x : Str} {p pos : Pos} {e : Expr} {es : List Expr} {ta : TA} {B newId initId : String} {bmB T : List Value}
theorem pmk_x1 (c : Xc X.K C B newId initId bmB T) (off : PySem.W.findIn X.K (.ref C) f = some none) (iC : PySem.W.findIn X.K (.ref C) "__init__" = some (some (.ref fI))) (tI : PySem.W.typeIn X.K (.ref fI) = some (.type "function"))
    (F : FnOk X.prog X.w X.K X.mg X.base CX0 k fI fd ps (spI1x X.K f)) (hr : Room (k + 1) X.A) (hb : KBn X.K fd ps 2 [] (fun us _ => us) (fun vs _ => vs)) (hg : Gl X x) (hm : X.mg x = some (.ref C)) (ha : PA X (e :: es) ta)
    (hdb : (x == ("__debug__" : Str)) = false := by decide) (hst : starEach (e :: es) X.env = (false, eval e X.env) :: starEach es X.env := by rfl) (hpl : (backTo pos (starEach es X.env)).any (·.1) = false := by rfl) :
    PMk X (.Call (.Name x p) (e :: es) [] pos) (tMkX C f ta) := by
  intro pins s σ H Q I h
  obtain ⟨nm, q, N, bs, sn, sub, ab, col, dd, k0, k1, k2, k3, k5, hC⟩ := c.cls
  refine wpAny_Call_Name_kw (ld_glob I hg hm ?_ hdb)
  refine PySem.W.callWith_K (h₀ := X.base) I.ok.mod.kin c.kC (thn (ha.run pos pins s σ H _ I h) fun us s1 ⟨vs, H1, I1, r, y, evs, q1⟩ => ⟨I1.kIn, ?_⟩) hst hpl
  subst evs
  obtain ⟨hp, gn, dr, tk0, os⟩ := s1
  have up : hp.objs.size ≤ hp.objs.size + 1 := Nat.le_succ _
  have fr : H1 (hp.objs.size + 1) = none := I1.hok.fresh up
  have keep2 : ∀ b o, hp.get? b = some o → ((hp.push (PySem.W.kdv_tup us)).push (PySem.HandSPX.excO C hp.objs.size)).get? b = some o := fun b o z => Heap.get?_push_of_some _ (Heap.get?_push_of_some _ z)
  have at1 : ((hp.push (PySem.W.kdv_tup us)).push (PySem.HandSPX.excO C hp.objs.size)).get? (hp.objs.size + 1) = some (PySem.HandSPX.excO C hp.objs.size) := by heap_get
  have J : Inv X pins σ (upd H1 (hp.objs.size + 1) (exo (hp.objs.size + 1) C none)) ⟨(hp.push (PySem.W.kdv_tup us)).push (PySem.HandSPX.excO C hp.objs.size), gn, dr, tk0, os⟩ :=
    I1.laid (t' := tk0) (a := hp.objs.size + 1) (o := exo (hp.objs.size + 1) C none) (h' := (hp.push (PySem.W.kdv_tup us)).push (PySem.HandSPX.excO C hp.objs.size)) keep2 up (exo_ok at1)
  have r1 : Vals (V.ref (hp.objs.size + 1) :: [y]) (Value.ref (hp.objs.size + 1) :: us) := .cons rfl r
  have e1 : (Value.ref (hp.objs.size + 1) :: us).length = 2 := r1.length.symm
  have hus : us.length ≤ sizeLine := by
    rw [← Paired.length r, sizeLine_eq]
    show 1 ≤ 16777216
    decide
  have hsp : spI1x X.K f (V.ref (hp.objs.size + 1) :: [y]) (upd H1 (hp.objs.size + 1) (exo (hp.objs.size + 1) C none))
      (fun v H2 => v = .non ∧ ∃ d, H2 (hp.objs.size + 1) = some (exo (hp.objs.size + 1) C (some d)) ∧ H2 d = some (exd d [(f, y)]) ∧ H1 d = none ∧ Q (.ref C) (some d) (upd (del H2 (hp.objs.size + 1)) d (.xd [(f, y)]))) E0 := by
    refine ⟨_, C, y, rfl, ⟨_, _, _, _, _, c⟩, off, upd_same, fun H2 d kp nd ea ed => ⟨rfl, d, ea, ed, ?_, ?_⟩⟩
    · have ne : d ≠ hp.objs.size + 1 := fun z => by rw [z, upd_same] at nd; cases nd
      rw [upd_ne ne] at nd
      exact nd
    · have ne : d ≠ hp.objs.size + 1 := fun z => by rw [z, upd_same] at nd; cases nd
      have nd1 : H1 d = none := by rw [upd_ne ne] at nd; exact nd
      refine q1 d _ nd1 (fun b u eb => ?_) upd_same
      have nb : b ≠ hp.objs.size + 1 := ne_of_none eb fr
      rw [upd_ne (ne_of_none eb nd1), del_ne nb]
      exact kp b u nb (by rw [upd_ne nb]; exact eb)
  refine wpAny_call (PySem.WX.xc_call c.Z (I1.kIn _ _ hC) (PySem.W.looks_findIn I1.kIn iC) (fun self => PySem.W.bind_fn I1.kIn self tI) hus
    (codeAny_mono (F.run _ X.stack _ _ ⟨Value.ref (hp.objs.size + 1) :: us, []⟩ (Value.ref (hp.objs.size + 1) :: us) _ _ E0 (hr.make C us []) (J.env0.make C us []) (hb.to _ (Value.ref (hp.objs.size + 1) :: us) [] J.kIn e1 rfl) r1 hsp) fun rr z hq' => ?_))
  match rr, hq' with
  | .error er, hq' => exact pass0 pins σ _ _ er z J hq'
  | .ok (.ret u), hq' =>
    obtain ⟨v, H2, os2, bare2, un2, hok2, rv, ev, d, ea, ed, hd1, q2⟩ := hq'
    subst ev
    obtain ⟨h2, g2, d2, t2, os'⟩ := z
    exact ⟨rv, mk_end (raises_own c.exC c.tyC) I1 up keep2 un2 hok2 os2 bare2 ea ed hd1 q2⟩
  | .ok .next, hq' => exact False.elim hq'
  | .ok .brk, hq' => exact False.elim hq'
  | .ok .cont, hq' => exact False.elim hq'
end
theorem exm_two {K : PySem.W.Frag} {C D : Addr} {B newId initId B' newId' initId' : String} {bmB T bmB' T' : List Value} (c : Xc K C B newId initId bmB T) (d : Xc K D B' newId' initId' bmB' T') (hd : PySem.W.hasDictIn K D = true) (nr : noRefs T = true) :
    PySem.W.exmOne K (.ref C) (.ref D) = some (decide (C = D)) := by
  refine PySem.W.exm_ref d.exC hd d.tyC ?_
  rw [c.sub, List.contains_cons, noRefs_ref nr, Bool.or_false]
  by_cases e : C = D
  · subst e
    simp
  · have ne : (Value.ref D == Value.ref C) = false := beq_eq_false_iff_ne.mpr fun z => e (Value.ref.inj z).symm
    rw [ne, decide_eq_false e]
theorem exm_self {K : PySem.W.Frag} {C : Addr} {B newId initId : String} {bmB T : List Value} (c : Xc K C B newId initId bmB T) (hd : PySem.W.hasDictIn K C = true) (nr : noRefs T = true) : PySem.W.exmOne K (.ref C) (.ref C) = some true := by
  rw [exm_two c c hd nr, decide_eq_true rfl]
theorem kit_is {K : PySem.W.Frag} {C : Addr} {B newId initId : String} {bmB T : List Value} (c : Xc K C B newId initId bmB T) {S : String} (m : PySem.W.kitMeta S = true) {b : Bool} (h : T.contains (.type S) = b) : PySem.W.kitOne K (.ref C) (.type S) = some b := by
  rw [kit_base c m, h]
/-! ### defs that may raise -/
structure CalX (P : Program) (w : World) (K : PySem.W.Frag) (mg : Str → Option Value) (base : Heap) (k : Nat) (x : Str) (sp : Sp) : Prop where
  ex : ∃ (f : Addr) (fd : FuncData) (ps : List Str), FnOk P w K mg base (L2.CX P w) k f fd ps sp ∧ mg x = some (.ref f) ∧ PySem.W.keepIn K (.ref f) = true ∧ Binds K fd ps []
structure MetX (P : Program) (w : World) (K : PySem.W.Frag) (mg : Str → Option Value) (base : Heap) (k : Nat) (C : Addr) (m : Str) (sp : Sp) : Prop where
  ex : ∃ (f : Addr) (fd : FuncData) (ps : List Str), Cls K C ∧ Meth K C m f ∧ FnOk P w K mg base (L2.CX P w) k f fd ps sp ∧ Binds K fd ps []
section
variable {P : Program} {w : World} {K : PySem.W.Frag} {mg : Str → Option Value} {base : Heap}
theorem fnX {x qual : Str} {st : Stmt} {f : Addr} {fd : FuncData} {N ps : List Str} {k : Nat} {sp : Sp} (F : C8.Fun K x qual st f fd) (S : FnScope N ps (C8.fnScope st)) (len : ∀ vs H Q E, sp vs H Q E → vs.length = ps.length)
    (body : ∀ (cdv : Value) (A : Around) (outer : List Env) (s : Shared) (H : Hp) (vs : List V) (Q : VK) (E : XK), Room k (A.deeper (envOfC qual (C8.fnScope st) s.heap.objs.size f cdv)) → sp vs H Q E →
      ∃ t, PSs (cxOf (L2.CX P w) P w K mg base N qual (C8.fnScope st) f cdv A outer s H E) (C8.fnBody st) t ∧ t { nx := fun _ H' => Q .non H', rt := Q } (start N vs) H) : FnOk P w K mg base (L2.CX P w) (k + 1) f fd ps sp := by
  obtain ⟨oc, od, dV, kV, doc, pm, an, cv, ct, sl, rfl, lk, hc⟩ := F.ex
  exact fn_of lk hc S len fun A outer s H vs Q E hr hsp => body cv A outer s H vs Q E hr hsp
theorem calX {x : Str} {st : Stmt} {f : Addr} {fd : FuncData} {N ps : List Str} {k : Nat} {sp : Sp} (F : C8.Def K mg x st f fd) (b : Binds K fd ps []) (S : FnScope N ps (C8.fnScope st)) (len : ∀ vs H Q E, sp vs H Q E → vs.length = ps.length)
    (body : ∀ (cdv : Value) (A : Around) (outer : List Env) (s : Shared) (H : Hp) (vs : List V) (Q : VK) (E : XK), Room k (A.deeper (envOfC x (C8.fnScope st) s.heap.objs.size f cdv)) → sp vs H Q E →
      ∃ t, PSs (cxOf (L2.CX P w) P w K mg base N x (C8.fnScope st) f cdv A outer s H E) (C8.fnBody st) t ∧ t { nx := fun _ H' => Q .non H', rt := Q } (start N vs) H) : CalX P w K mg base (k + 1) x sp :=
  ⟨f, fd, ps, fnX F.fn S len body, F.mgf, F.kp, b⟩
theorem metX {m qual : Str} {C : Addr} {st : Stmt} {f : Addr} {fd : FuncData} {N ps : List Str} {k : Nat} {sp : Sp} (c : Cls K C) (me : Meth K C m f) (F : C8.Fun K m qual st f fd) (b : Binds K fd ps []) (S : FnScope N ps (C8.fnScope st)) (len : ∀ vs H Q E, sp vs H Q E → vs.length = ps.length)
    (body : ∀ (cdv : Value) (A : Around) (outer : List Env) (s : Shared) (H : Hp) (vs : List V) (Q : VK) (E : XK), Room k (A.deeper (envOfC qual (C8.fnScope st) s.heap.objs.size f cdv)) → sp vs H Q E →
      ∃ t, PSs (cxOf (L2.CX P w) P w K mg base N qual (C8.fnScope st) f cdv A outer s H E) (C8.fnBody st) t ∧ t { nx := fun _ H' => Q .non H', rt := Q } (start N vs) H) : MetX P w K mg base (k + 1) C m sp :=
  ⟨f, fd, ps, c, me, fnX F S len body, b⟩
end
section
variable {X : Cx} {k j : Nat} {C : Addr} {x m : Str} {sp : Sp} {p pos apos : Pos} {e o : Expr} {es : List Expr} {ta : TE} {t : TA} {W : WX}
/-- a call of a def that may raise, where W takes it -/
theorem pe_cX (tk : Takes X W) (c : CalX X.prog X.w X.K X.mg X.base k x sp) (hr : Room j X.A) (hk : k ≤ j) (hg : Gl X x) (ha : PA X (e :: es) t) (hdb : (x == ("__debug__" : Str)) = false := by decide)
    (hst : starEach (e :: es) X.env = (false, eval e X.env) :: starEach es X.env := by rfl) (hpl : (backTo pos (starEach es X.env)).any (·.1) = false := by rfl) : PE X (.Call (.Name x p) (e :: es) [] pos) (tCallS sp (WE W) t) := by
  obtain ⟨f, fd, ps, F, hm, kp, b⟩ := c.ex
  exact pe_callS F (hr.mono hk) hg hm kp b (fun σ => passAt tk σ) ha hdb hst hpl
end
end Wd
namespace Wd
open PySem PySem.Spec PyProof.Rows L2
section
variable {X : Cx} {k j : Nat} {C : Addr} {x m : Str} {sp : Sp} {p pos apos : Pos} {e o : Expr} {es : List Expr} {ta : TE} {t : TA} {W : WX}
def tMethS (C : Addr) (m : Str) (sp : Sp) (W : WX) (ta : TE) (t : TA) : TE := fun σ H Q => ta σ H fun x H1 => ∃ a dx fs, x = .ref a ∧ H1 a = some (.ins C dx fs) ∧ fs.lookup m = none ∧ t σ H1 fun vs H2 => sp (x :: vs) H2 Q (WE W σ)
/-- a call of a method that may raise, where W takes it -/
theorem pe_mtX {plz : Sem Bool} (tk : Takes X W) (c : MetX X.prog X.w X.K X.mg X.base k C m sp) (hr : Room j X.A) (hk : k ≤ j) (he : PE X o ta) (ha : PA X (e :: es) t)
    (h1 : starEach (e :: es) X.env = (false, eval e X.env) :: starEach es X.env := by rfl) (h2 : (backTo pos (starEach es X.env)).any (·.1) = false := by rfl)
    (h3 : eval (.Call (.Attribute o m apos) (e :: es) [] pos) X.env = (do
      let oz ← eval o X.env
      standAt apos.atName
      let (g, before) ← holding [oz] (getMethod oz m plz)
      callWith pos g before (backTo pos (starEach (e :: es) X.env)) (backToKw pos (keywordEach [] X.env))) := by rfl) :
    PE X (.Call (.Attribute o m apos) (e :: es) [] pos) (tMethS C m sp W ta t) := by
  obtain ⟨f, fd, ps, hc, hm, F, b⟩ := c.ex
  refine ⟨fun pins s σ H Q I h => ?_⟩
  refine PySem.W.methodCall_KW (pl := plz) (thn (he.run pins s σ H _ I h) fun ov s1 ⟨xo, H1, I1, rxo, a, dx, fs, exo, eao, lo, qo⟩ => ?_) h3
  subst exo
  obtain rfl : ov = Value.ref a := rxo
  refine getmeth_ok I1 eao hc hm lo ?_
  refine PySem.W.callWith_K (first := [.ref a]) (h₀ := X.base) I.ok.mod.kin hm.kp (thn (ha.run pos pins s1 σ H1 _ I1 qo) fun ws s2 ⟨vs, H2, I2, rws, q2⟩ => ⟨I2.kIn, ?_⟩) h1 h2
  exact run_fnS (us := .ref a :: ws) (vs := .ref a :: vs) F (hr.mono hk) b (passAt tk σ) I2 (.cons rfl rws) q2
end
/-! ### a caught error that is kept -/
section
variable {X : Cx} {pins : List (Addr × Obj)} {σ : L2.St} {H : Hp} {s : Shared}
/-- a new object, pinned so far, is tracked from now on -/
theorem inv_track {a : Addr} {oe : Obj} {u : HO} (I : Inv X ((a, oe) :: pins) σ H s) (h0 : X.s_0.heap.get? a = none) (hp : ∀ q ∈ X.pn ++ pins, q.1 ≠ a) (new : ObjOk X.prog X.w (upd H a u) s.heap a u) : Inv X pins σ (upd H a u) s := by
  have me : (a, oe) ∈ X.pn ++ (a, oe) :: pins := List.mem_append_right _ List.mem_cons_self
  obtain ⟨ga, na, nl, nf, nc⟩ := I.pin _ me
  have na : H a = none := na
  refine ⟨I.ok, I.os, I.bare, ⟨I.base.keep, I.base.slot, fun b o z n hx => ?_, I.base.there, fun b xs z => ?_, fun b o v z => ?_, fun b ps z => ?_⟩, I.loc, I.cell, ?_, fun y c e => ?_, fun q hq => ?_, ?_, I.len⟩
  · rw [upd_ne (fun e => by rw [e, h0] at z; cases z)]
    exact I.base.free b o z n hx
  · have z2 := I.base.tups b xs z
    rw [upd_ne (ne_of_none z2 na)]
    exact z2
  · have z2 := I.base.frzs b o v z
    rw [upd_ne (ne_of_none z2 na)]
    exact z2
  · obtain ⟨more, z2⟩ := I.base.tbls b ps z
    exact ⟨more, by rw [upd_ne (ne_of_none z2 na)]; exact z2⟩
  · rw [upd_ne (fun z => nl z.symm)]
    exact I.free
  · rw [upd_ne (fun z => ?_)]
    · exact I.freeC y c e
    · obtain ⟨v, o, ho, hd⟩ := I.cell y c e
      rw [z, show s.heap.get? a = some oe from ga] at ho
      have eo := Option.some.inj ho
      exact nc v (by rw [show ((a, oe) : Addr × Obj).2 = o from eo]; exact hd)
  · have hq2 : q ∈ X.pn ++ (a, oe) :: pins := by
      rcases List.mem_append.mp hq with h | h
      · exact List.mem_append_left _ h
      · exact List.mem_append_right _ (List.mem_cons_of_mem _ h)
    obtain ⟨g1, g2, g3⟩ := I.pin q hq2
    exact ⟨g1, by rw [upd_ne (hp q hq)]; exact g2, g3⟩
  · exact I.hok.laidN (fun _ _ e => e) na new
end
/-- what 'except x as n' wishes of an exception of the body, where the suite may keep it: slot i is n's -/
def wKeep (K : PySem.W.Frag) (c : Value) (i : Nat) (ts : Addr → Value → Option Addr → TS) (Wout : WX) (D : Ends) : WX := fun cls d σ H =>
  ∃ (C : Addr) (b : Bool), cls = .ref C ∧ PySem.W.exmOne K cls c = some b ∧ (b = true → ∀ a, H a = none → ts a cls d { nx := fun σ' H' => H' a = none → D.nx (σ'.set i none) (upd H' a (exk a C d)), rt := D.rt, bk := fun σ' H' => D.bk (σ'.set i none) H', ct := fun σ' H' => D.ct (σ'.set i none) H' } (σ.set i (some (.ref a))) H) ∧
    (b = false → Wout cls d σ H)
section
variable {X : Cx} {x n : Str} {c : Value} {i : Nat} {body suite : List Stmt} {b₁ : Stmt} {np pos pos' : Pos} {tb : WX → TS} {ts : Addr → Value → Option Addr → TS} {Wout : WX}
theorem ps_try_keep (hst : X.stack = X.env :: X.outer) (hfr0 : X.env.frame = some X.env.locals) (hNd : X.N.Nodup) (hin : X.N[i]? = some n) (hloc : X.env.kindOf n = some .local) (hcl : Names X x c) (tko : Takes X Wout) (hex : X.ex = [])
    (hbd : ∀ (W : WX) (pn : List (Addr × Obj)) (xe : Value → Shared → Prop), Takes (X.tr pn xe) W → PassesOwn (model X.prog X.w) X.A X.env xe → PSs (X.tr pn xe) body (tb W))
    (hst2 : ∀ (a : Addr) (oz : Obj) (cls : Value) (d : Option Addr) (pn : List (Addr × Obj)), Zc cls d oz → (∃ vs, oz.data = .fields vs) → PSs (X.suite a ((a, oz) :: pn)) (b₁ :: suite) (ts a cls d)) :
    PS X (.Try body [.ExceptHandler (some (.Name x np)) (some n) (b₁ :: suite) pos'] [] [] pos) (fun D σ H => tb (wKeep X.K c i ts Wout D) D σ H) := by
  refine ⟨fun pins s σ H D I h => ?_⟩
  have okX := I.ok
  have frm : X.A.frames = some (X.env :: X.outer) := by rw [okX.frames, hst]
  have lc : Loc X.env.scope n := .inl hloc
  refine wpAny_Try_except ?_
  refine wpAny_mono ((hbd (wKeep X.K c i ts Wout D) (X.pn ++ pins) (fun z z1 => wpAny (model X.prog X.w) X.A (noteFrame z X.env) (fun _ z2 => wpAny (model X.prog X.w) X.A (setFlight z none) (fun _ z3 =>
    wpAny (model X.prog X.w) X.A (handleBy z X.env [.ExceptHandler (some (.Name x np)) (some n) (b₁ :: suite) pos']) (SP X pins D) X.xe z3) X.xe z2) X.xe z1) (fun u su xx => ?_) PassesOwn.looking).run [] s σ H D (I.toTry _) h) (fun fl s1 hsp => ?_) (fun z s1 hz => hz)
  · -- caught
    obtain ⟨a, G, sJ, pinz, σ', H', cls, d, rfl, Jt, kept, up, sky, na, os, ag, C, b, ecl, hb1, hyes, hno⟩ := xx
    have Jo : Inv X pins σ' H' sJ := Jt.ofTry okX
    have sky2 : Sky G (X.env :: X.outer) a (Zc cls d) X.env.locals su.heap := by rw [← hst]; exact sky
    show wpAny (model X.prog X.w) X.A (noteFrame (.ref a) X.env) _ _ _
    refine Sky.land Zc.steady frm hfr0 sky2 fun g3 fl3 up3 => ?_
    have J3 : Inv X pins σ' H' { su with heap := g3 } := Jo.landed kept fl3.1 (up.trans up3) os ag
    obtain ⟨o3, v3, e3, z3, d3⟩ := fl3.there
    have offFr : ∀ {g : Heap} {o : Obj} {vs : Array Value}, g.FunFrames G (X.env :: X.outer) → g.get? a = some o → o.data = .fields vs → a ∉ frs (X.env :: X.outer) := fun {g o vs} ff e dd hm => by
      obtain ⟨_, o', e', hnf⟩ := ff.mem hm
      rw [e] at e'; cases e'
      exact hnf _ dd
    have nfr := offFr fl3.2.2.1 e3 d3
    have noG : G.get? a = none := fl3.2.1
    have newJ : sJ.heap.get? a = none := by
      cases q : sJ.heap.get? a with
      | none => rfl
      | some o =>
        have := kept a o q (by rw [hst]; exact nfr)
        rw [noG] at this
        cases this
    have new0 : X.s_0.heap.get? a = none := by
      cases q : X.s_0.heap.get? a with
      | none => rfl
      | some o =>
        obtain ⟨o', e'⟩ := Jo.base.there a o q (by rw [hex]; simp)
        rw [newJ] at e'
        cases e'
    have offP : ∀ q ∈ X.pn ++ pins, q.1 ≠ a := fun q hq z => by
      have := (Jo.pin q hq).1
      rw [z, newJ] at this
      cases this
    have nL : a ≠ X.env.locals := fun z => nfr (List.mem_filterMap.mpr ⟨X.env, List.mem_cons_self, by rw [hfr0, z]⟩)
    have nF : a ∉ X.fs := fun hm => by
      obtain ⟨y, hy, q⟩ := List.mem_filterMap.mp hm
      exact nfr (List.mem_filterMap.mpr ⟨y, List.mem_cons_of_mem _ hy, q⟩)
    have S3 := J3.suite e3 d3 na nL nF
    refine wpAny_handleBy_cons (codeAny_handlers_test ?_) (by intro q; cases q)
    have typA : PySem.W.Looks (model X.prog X.w) g3 (typeOf (.ref a)) cls := fun A' Q' E' s' kq q => wpAny_typeOf_ref (kq _ _ e3) (by rw [z3.1]; exact q)
    have isA := PySem.W.exm_one (M := model X.prog X.w) (J3.kIn) typA hb1
    have nameA : ∀ {Q : Value → Shared → Prop} {E : Value → Shared → Prop}, Q c { su with heap := g3 } → wpAny (model X.prog X.w) (X.A.mark (some (.ref a))) (eval (.Name x np) X.env) Q E { su with heap := g3 } := fun {Q E} q => by
      obtain ⟨hg, hdbg, hm | ⟨hm, hv, hnn⟩⟩ := hcl
      · exact ld_glob (X := X.suite a ((a, o3) :: (X.pn ++ pins))) S3 hg hm q hdbg
      · exact ld_blt (X := X.suite a ((a, o3) :: (X.pn ++ pins))) S3 hg hm hv q hnn hdbg
    refine nameA (isA.here ?_)
    cases b with
    | true =>
      refine codeAny_handlers_suite_as ?_
      refine HandSPX.lands_againZ fl3 fun g4 fl4 up4 => ?_
      have J4 : Inv X pins σ' H' { su with heap := g4 } := Jo.landed kept fl4.1 ((up.trans up3).trans up4) os ag
      obtain ⟨o4, v4, e4, z4, d4⟩ := fl4.there
      have S4 := J4.suite e4 d4 na nL nF
      refine store_ok (X := X.suite a ((a, o4) :: (X.pn ++ pins))) (v := .ref a) S4 hNd hin lc rfl (fun s5 S5 => ?_) (.inr hloc)
      refine wpAny_mono ((hst2 a o4 cls d (X.pn ++ pins) z4 ⟨_, d4⟩).run [] s5 _ H' _ S5 (hyes rfl a na)) (fun fl s6 hsp => ?_) (fun _ _ z => False.elim z)
      have toP : ∀ {σ6 : L2.St} {H6 : Hp}, Inv (X.suite a ((a, o4) :: (X.pn ++ pins))) [] σ6 H6 s6 → Inv X ((a, o4) :: pins) σ6 H6 s6 := fun {σ6 H6} S6 =>
        ⟨okX, S6.os, S6.bare, S6.base, S6.loc, S6.cell, S6.free, S6.freeC, fun q hq => S6.pin q (by
          rw [List.append_nil]
          rcases List.mem_append.mp hq with hq | hq
          · exact List.mem_cons_of_mem _ (List.mem_append_left _ hq)
          · rcases List.mem_cons.mp hq with hq | hq
            · rw [hq]
              exact List.mem_cons_self
            · exact List.mem_cons_of_mem _ (List.mem_append_right _ hq)), S6.hok, S6.len⟩
      have fin6 : ∀ {σ6 : L2.St} {H6 : Hp} {Q : Shared → Prop}, Inv (X.suite a ((a, o4) :: (X.pn ++ pins))) [] σ6 H6 s6 → (∀ s7, Inv X pins (σ6.set i none) H6 s7 → Q s7) →
          wpAny (model X.prog X.w) X.A (do bindName X.env n .none; unbindBehindTheSuite X.env n pos') (fun _ s7 => Q s7) X.xe s6 := fun {σ6 H6 Q} S6 hq => gone_ok (S6.unsuite okX) hNd hin hloc hq
      cases fl with
      | next =>
        obtain ⟨σ6, H6, S6, q6⟩ := hsp
        refine gone_ok (toP S6) hNd hin hloc fun s7 J7 => ?_
        obtain ⟨g7, n7, _⟩ := J7.pin (a, o4) (List.mem_append_right _ List.mem_cons_self)
        exact ⟨_, _, inv_track J7 new0 offP (exk_ok g7 (by rw [z4.1, ecl]) z4.2 d4), q6 n7⟩
      | brk =>
        obtain ⟨σ6, H6, S6, q6⟩ := hsp
        exact fin6 S6 fun s7 J7 => ⟨_, _, J7, q6⟩
      | cont =>
        obtain ⟨σ6, H6, S6, q6⟩ := hsp
        exact fin6 S6 fun s7 J7 => ⟨_, _, J7, q6⟩
      | ret u =>
        obtain ⟨v6, σ6, H6, S6, r6, q6⟩ := hsp
        exact fin6 S6 fun s7 J7 => ⟨_, _, _, J7, r6, q6⟩
    | false =>
      show wpAny _ X.A (handleBy (.ref a) X.env []) _ _ _
      refine wpAny_handleBy_nil ?_
      obtain ⟨k1, k2, k3, oq, vq, T, oT, tq, he, hz, hd, h1, hr⟩ := id fl3
      unfold PySem.passOn
      refine wpAny_bind (wpAny_field he hd h1 ?_)
      rw [if_neg (show ¬ ((Value.ref T == Value.none) = true) from by simp)]
      have on : wpAny (model X.prog X.w) X.A (setFlight (.ref a) X.env.frame) (fun _ z4 => wpAny (model X.prog X.w) X.A (throw (.ref a) : Sem Flow) (SP X pins D) X.xe z4) X.xe { su with heap := g3 } := by
        rw [hfr0]
        refine HandSPX.setFlight_upZ fl3 fun g4 held up4 => wpAny_throw (tko _ _ ?_)
        exact ⟨a, G, sJ, pins, σ', H', cls, d, rfl, Jo, kept, (up.trans up3).trans up4, .inr (.inr (by rw [hst]; exact held)), na, os, ag, hno rfl⟩
      first
        | exact wpAny_bind (wpAny_pure (wpAny_bind on))
        | exact wpAny_bind on
  · cases fl with
    | next =>
      obtain ⟨σ', H', Jz, q⟩ := hsp
      exact wpAny_execs_nil ⟨σ', H', Jz.ofTry okX, q⟩
    | brk =>
      obtain ⟨σ', H', Jz, q⟩ := hsp
      exact ⟨σ', H', Jz.ofTry okX, q⟩
    | cont =>
      obtain ⟨σ', H', Jz, q⟩ := hsp
      exact ⟨σ', H', Jz.ofTry okX, q⟩
    | ret u =>
      obtain ⟨v, σ', H', Jz, r, q⟩ := hsp
      exact ⟨v, σ', H', Jz.ofTry okX, r, q⟩
end
end Wd

set_option Elab.async false
set_option linter.all false
set_option maxRecDepth 100000
set_option maxHeartbeats 4000000
/-! enumerate of a tuple; of what is a list or a tuple. -/
namespace Wd
open PySem PySem.Spec PyProof.Rows L2 RZ Builtin
abbrev en1 (h : Heap) (a : Addr) : Heap := h.push { cls := .type "tuple_iterator", data := .fields #[.ref a, .int 0 0] }
abbrev en2 (h : Heap) (a : Addr) : Heap := (en1 h a).push { cls := .type "enumerate", data := .fields #[.none, .bool false, .ref h.objs.size, rawInt 0, .none, .none] }
theorem meets_enT (a : Addr) (ys : Array Value) :
    Meets (Builtin.«enumerate.__new__» ⟨[.type "enumerate", .ref a], []⟩) (fun _ R z => z.heap.IsTuple a ys ∧ R (.ok (.ret (.ref (en1 z.heap a).objs.size))) { z with heap := en2 z.heap a }) :=
  .of_wp fun prog w A R z h => by
    obtain ⟨g0, gn, df, tk, os⟩ := z; obtain ⟨tb, h⟩ := h
    have hsub := sub_enumerate
    have tb' : Heap.IsTuple (Shared.heap ⟨g0, gn, df, tk, os⟩) a ys := tb
    wp_walk using wpAny_pyIter_tuple tb'
    refine wpAny_stack_any fun st => wpAny_pure ?_
    split
    · rename_i c _ _ _ _ _
      cases (c == Value.type "enumerate")
      · wp_walk using wpAny_pyIter_tuple tb'
        exact ⟨_, rfl, h⟩
      · wp_walk using wpAny_pyIter_tuple tb'
        exact ⟨_, rfl, h⟩
    · wp_walk using wpAny_pyIter_tuple tb'
      exact ⟨_, rfl, h⟩
section
variable {prog : Program} {w : World} {A : Around} {E : Value → Shared → Prop} {z0 : Shared}
theorem call_enT {a : Addr} {ys : Array Value} {Q : Value → Shared → Prop} (tb : z0.heap.IsTuple a ys)
    (q : ∀ h', IsEnum h' (z0.heap.objs.size + 1) z0.heap.objs.size 0 .none → h'.IsTupleIter z0.heap.objs.size a 0 → h'.objs.size = z0.heap.objs.size + 2 → (∀ c o, z0.heap.get? c = some o → h'.get? c = some o) → Q (.ref (z0.heap.objs.size + 1)) { z0 with heap := h' }) :
    wpAny (model prog w) A (call (.type "enumerate") [.ref a]) Q E z0 := by
  refine callType_new F.called_enumerate (by decide) (F.typeCall_enumerate_1 _) (F.newCall_enumerate_1 _) (fun obj => F.args_object_init_2 obj _) F.entry_enumerate_new (meets_enT a ys) ⟨tb, ?_⟩
  have n1 : (en1 z0.heap a).objs.size = z0.heap.objs.size + 1 := Heap.size_push ..
  have n2 : (en2 z0.heap a).objs.size = z0.heap.objs.size + 2 := by rw [Heap.size_push, n1]
  have e2 : (en2 z0.heap a).get? (en1 z0.heap a).objs.size = some _ := Heap.get?_push_size _ rfl
  have e1 : (en2 z0.heap a).get? z0.heap.objs.size = some _ := Heap.get?_push_of_some _ (Heap.get?_push_size _ rfl)
  show _ ∧ _
  rw [n1] at e2 ⊢
  exact ⟨⟨_, e2, rfl⟩, q _ e2 ⟨_, e1, rfl, rfl⟩ n2 fun c o x => Heap.get?_push_of_some _ (Heap.get?_push_of_some _ x)⟩
end
/-- the tuple at a, each item in a new pair -/
def IteT (K : PySem.W.Frag) (a : Addr) : It :=
  ⟨fun i H => ∃ (xs : List V) (x : V), SqT K H a xs ∧ xs[i]? = some x, fun i H v H' => ∃ T x, v = .ref T ∧ H T = none ∧ H' = upd H T (.tup [.int (i : Nat), x]) ∧ ∀ xs, SqT K H a xs → xs[i]? = some x, fun i H => ∃ xs : List V, SqT K H a xs ∧ xs.length = i⟩
theorem turn_enT {P : Program} {w : World} {K : PySem.W.Frag} {elts : List Expr} {kk : Nat} {tpos : Pos} {a z i1 : Addr} (d1 : z ≠ i1) (d2 : z ≠ a) (d3 : a ≠ i1) :
    Turn P w K (.Tuple elts kk tpos) (IteT K a) [z, i1] z (fun i h => (∃ old, IsEnum h z i1 ((i : Nat) : Int) old) ∧ h.IsTupleIter i1 a i) where
  mem := by simp
  obj := fun i h q c hc => by
    obtain ⟨⟨old, q1⟩, ⟨o1, e1, _, t1⟩⟩ := q
    simp only [List.mem_cons, List.not_mem_nil, or_false] at hc
    rcases hc with rfl | rfl
    · exact ⟨_, q1, fun v t => nomatch t⟩
    · exact ⟨o1, e1, fun v t => by rw [t1] at t; cases t⟩
  keep := fun i h h' q k => by
    obtain ⟨⟨old, q1⟩, q2⟩ := q
    exact ⟨⟨old, k z (by simp) _ q1⟩, q2.at fun o t => k i1 (by simp) o t⟩
  item := by
    intro X hP hw hK hc i pins s0 σ H E I hf q hg
    subst hP hw hK
    obtain ⟨⟨old, q1⟩, q2⟩ := q
    obtain ⟨xs, x, hqx, hx⟩ := hg
    obtain ⟨vs, rv, p2, _⟩ := I.tuple hqx
    obtain ⟨u, hu, ru⟩ := rv.get hx
    have zl : z < s0.heap.objs.size := Heap.lt_size q1
    have hA : X.A.in1.handled = none := I.ok.hd hc
    refine wpAny_pyNext_enum_itemD (draws_tup hA i1 a d3 vs.toArray) q1 ⟨q2, p2⟩ (by
      have := (List.getElem?_eq_some_iff.mp hu).1; simpa using this) d1 (by simp [d1, d2]) fun x1 h1 tk g1 g2 g3 g4 g5 hk => ?_
    have e1 : x1 = u := by
      have t : vs[i]? = some x1 := by simpa using g1
      rw [hu] at t
      exact (Option.some.inj t).symm
    subst e1
    refine ⟨_, rfl, wpAny_letOwnedTupleGo_enum (s := { s0 with heap := h1, toks := tk + 1 }) g2 fun h2 z2 sb => ?_⟩
    have t2 : h2.get? s0.heap.objs.size = some { cls := .type "tuple", data := .seq #[.int i tk, x1] } := (sb.2 _ (Nat.ne_of_gt zl)).trans g4
    have new : ObjOk X.prog X.w (upd H s0.heap.objs.size (.tup [.int (i : Nat), x])) h2 s0.heap.objs.size (.tup [.int (i : Nat), x]) :=
      ⟨by show 2 ≤ sizeLine; decide, [.int i tk, x1], .cons ⟨_, rfl⟩ (.cons ru .nil), ⟨_, t2, rfl, _, rfl⟩⟩
    have I1 : Inv X pins σ (upd H s0.heap.objs.size (.tup [.int (i : Nat), x])) { s0 with heap := h2, toks := tk + 1 } :=
      I.turnedNew (ch := [z, i1]) (fun c o hb t => (sb.2 c (fun t' => hb (by simp [t']))).trans (hk c o (fun t' => hb (by simp [t'])) (fun t' => hb (by simp [t'])) t)) hf (Nat.le_refl _) new
    refine ⟨.ref s0.heap.objs.size, _, I1, rfl, ⟨_, x, rfl, I.hok.fresh (Nat.le_refl _), rfl, fun l hl => by rw [I.tuple_inj hl hqx]; exact hx⟩, ⟨⟨x1, ?_⟩, ?_⟩, fun c hcm => ?_⟩
    · have e2 : ((i + 1 : Nat) : Int) = (i : Int) + 1 := by omega
      rw [e2]
      exact z2
    · exact g3.1.at fun o t => (sb.2 _ (Ne.symm d1)).trans t
    · have hlt : c < s0.heap.objs.size := by
        simp only [List.mem_cons, List.not_mem_nil, or_false] at hcm
        rcases hcm with rfl | rfl
        · exact zl
        · obtain ⟨_, t, _⟩ := q2; exact Heap.lt_size t
      rw [upd_ne (Nat.ne_of_lt hlt)]
      exact (hf c hcm).1
  done := by
    intro X hP hw hK hc i pins s0 σ H E I hf q hg
    subst hP hw hK
    obtain ⟨⟨old, q1⟩, q2⟩ := q
    obtain ⟨xs, hqx, hl⟩ := hg
    obtain ⟨vs, rv, p2, _⟩ := I.tuple hqx
    have l2 := rv.length
    have hA : X.A.in1.handled = none := I.ok.hd hc
    obtain ⟨f0, f1, f2, f3, f4, f5⟩ := hf i1 (by simp)
    refine wpAny_pyNext_enum_endD (draws_tup hA i1 a d3 vs.toArray) q1 ⟨?_, p2⟩ fun h1 eb => ⟨rfl, I.turned (t' := s0.toks) (fun b o hb t => eb b o hb t) f0 f1 f3 f4 f5⟩
    have e : vs.toArray.size = i := by rw [List.size_toArray]; omega
    rw [e]
    exact q2
  self := fun A i s0 Q E q h => wpAny_pyIter_enum q.1.choose_spec h
theorem walk_enT {K : PySem.W.Frag} {a : Addr} {xs : List V} : Walk (IteT K a) xs.length (fun H => SqT K H a xs) (YPair (fun i => some (.int (i : Nat))) (fun i => xs[i]?)) := by
  refine ⟨fun i _ hi q => ⟨xs, xs[i], q, by simp [hi]⟩, fun _ q => ⟨xs, q, rfl⟩, fun i H v H' _ q y => ?_⟩
  obtain ⟨T, x, h1, h2, h3, h4⟩ := y
  exact ⟨T, .int (i : Nat), x, h1, h2, h3, rfl, h4 xs q⟩
/-- a list, or a tuple -/
def SqB (K : PySem.W.Frag) (b : Bool) (H : Hp) (a : Addr) (xs : List V) : Prop := match b with
  | true => SqL K H a xs
  | false => SqT K H a xs
theorem SqB.of {K : PySem.W.Frag} {H : Hp} {a : Addr} {xs : List V} (h : SqL K H a xs ∨ SqT K H a xs) : ∃ b, SqB K b H a xs := h.elim (fun z => ⟨true, z⟩) fun z => ⟨false, z⟩
theorem SqB.or {K : PySem.W.Frag} {b : Bool} {H : Hp} {a : Addr} {xs : List V} (h : SqB K b H a xs) : SqL K H a xs ∨ SqT K H a xs := match b, h with
  | true, z => .inl z
  | false, z => .inr z
theorem SqB.same {K : PySem.W.Frag} {b : Bool} {H H' : Hp} {a : Addr} {xs : List V} (s : Same H H') (h : SqB K b H a xs) : SqB K b H' a xs := match b, h with
  | true, z => sqL_at (fun o => s _ o) z
  | false, z => same_sqT s z
/-- enumerate of what is a list or a tuple -/
def iEnumS (K : PySem.W.Frag) (ta : TA) : TI := fun σ H R => ta σ H fun vs H1 => ∃ a xs b, vs = [.ref a] ∧ SqB K b H1 a xs ∧
  ∀ (J : It) (G : Hp → Prop), Walk J xs.length G (YPair (fun i => some (.int (i : Nat))) (fun i => xs[i]?)) → (∀ H', SqB K b H' a xs → G H') → R J H1
theorem pi_enumS {X : Cx} {K : PySem.W.Frag} {e : Expr} {ta : TA} {p pos tpos : Pos} {elts : List Expr} {kk : Nat} (hg : Gl X "enumerate") (hm : X.mg "enumerate" = none) (ha : PA X [e] ta) (hK : X.K = K := by rfl) (hs : starEach [e] X.env = [(false, eval e X.env)] := by rfl) :
    PI X (.Tuple elts kk tpos) (.Call (.Name "enumerate" p) [e] [] pos) (iEnumS K ta) := by
  subst hK
  refine ⟨fun pins z0 σ H R I h => ?_⟩
  refine Call_ (ld_blt I hg hm boot_enumerate (PyProof.Rows.callWith_type1 (thn (ha.run pos pins z0 σ H _ I h) fun us z1 ⟨vs, H1, I1, r1, q1⟩ => ?_) hs rfl))
  obtain ⟨a, xs, b, ex, hq, q⟩ := q1
  subst ex
  cases r1 with
  | cons r rr =>
    cases rr
    cases r
    match b, hq, q with
    | true, hq, q =>
      replace hq : SqL X.K H1 a xs := hq
      obtain ⟨its, rv, p', hz⟩ := I1.list hq
      refine call_enumerate_list p'.isList fun h' he hit hsz hk => wpAny_pyIter_enum he ?_
      have I2 : Inv X pins σ H1 { z1 with heap := h' } := I1.kept (t' := z1.toks) hk
      refine ⟨z1.heap.objs.size + 1, [z1.heap.objs.size + 1, z1.heap.objs.size], _, _, H1, rfl, I2, turn_enum a (z1.heap.objs.size + 1) z1.heap.objs.size, ⟨⟨.none, he⟩, hit, Nat.succ_ne_self _⟩, fun c hc => ?_, q _ _ walk_enum fun H' k => k⟩
      have hle : z1.heap.objs.size ≤ c := by
        simp only [List.mem_cons, List.not_mem_nil, or_false] at hc
        rcases hc with rfl | rfl
        · exact Nat.le_add_right _ _
        · exact Nat.le_refl _
      exact I1.fpOk hle (I1.hok.fresh hle)
    | false, hq, q =>
      replace hq : SqT X.K H1 a xs := hq
      obtain ⟨its, rv, p', _⟩ := I1.tuple hq
      obtain ⟨o2, ho2, _⟩ := id p'
      have al : a < z1.heap.objs.size := Heap.lt_size ho2
      refine call_enT (show z1.heap.IsTuple a its.toArray from p') fun h' he hit hsz hk => wpAny_pyIter_enum he ?_
      have I2 : Inv X pins σ H1 { z1 with heap := h' } := I1.kept (t' := z1.toks) hk
      refine ⟨z1.heap.objs.size + 1, [z1.heap.objs.size + 1, z1.heap.objs.size], _, _, H1, rfl, I2, turn_enT (a := a) (Nat.succ_ne_self _) (Nat.ne_of_gt (Nat.lt_succ_of_lt al)) (Nat.ne_of_lt al), ⟨⟨.none, he⟩, hit⟩, fun c hc => ?_, q _ _ walk_enT fun H' k => k⟩
      have hle : z1.heap.objs.size ≤ c := by
        simp only [List.mem_cons, List.not_mem_nil, or_false] at hc
        rcases hc with rfl | rfl
        · exact Nat.le_add_right _ _
        · exact Nat.le_refl _
      exact I1.fpOk hle (I1.hok.fresh hle)
end Wd
namespace Wd
open PySem PySem.Spec PyProof.Rows L2
/-- a walk over what is a list or a tuple -/
def iSeqS (K : PySem.W.Frag) (te : TE) : TI := fun σ H R => te σ H fun x H1 => ∃ a xs b, x = .ref a ∧ SqB K b H1 a xs ∧ ∀ (J : It) (G : Hp → Prop), Walk J xs.length G (YAt xs) → (∀ H', SqB K b H' a xs → G H') → R J H1
theorem pi_seqS {X : Cx} {K : PySem.W.Frag} {tg e : Expr} {te : TE} (he : PE X e te) (hK : X.K = K := by rfl) : PI X tg e (iSeqS K te) := by
  subst hK
  refine ⟨fun pins s σ H R I q => thn (he.run pins s σ H _ I q) fun v s1 ⟨x, H1, I1, r1, q1⟩ => ?_⟩
  obtain ⟨a, xs, b, ex, hq, q1⟩ := q1
  subst ex
  cases r1
  match b, hq, q1 with
  | true, hq, q1 => exact it_list I1 hq (q1 _ _ walk_list fun H' k => k)
  | false, hq, q1 => exact it_tup I1 hq (q1 _ _ walk_tup fun H' k => k)
end Wd

set_option Elab.async false
set_option linter.all false
set_option maxRecDepth 100000
set_option maxHeartbeats 4000000
namespace Wd
open PySem PySem.Spec PyProof.Rows L2
abbrev s_is_wish_of_two : Stmt := topS 13
theorem sc_is_wish_of_two : FnScope ["hall", "wish", "word", "one", "other"] ["hall", "wish"] (C8.fnScope s_is_wish_of_two) := ⟨rfl, rfl, rfl, by decide +kernel, rfl, by decide +kernel, by decide +kernel⟩
abbrev s_is_wish : Stmt := topS 12
theorem sc_is_wish : FnScope ["hall", "thing", "word", "door"] ["hall", "thing"] (C8.fnScope s_is_wish) := ⟨rfl, rfl, rfl, by decide +kernel, rfl, by decide +kernel, by decide +kernel⟩
abbrev s_need_goal : Stmt := topS 11
theorem sc_need_goal : FnScope ["hall", "thing", "at", "wish"] ["hall", "thing"] (C8.fnScope s_need_goal) := ⟨rfl, rfl, rfl, by decide +kernel, rfl, by decide +kernel, by decide +kernel⟩
section
variable {P : Program} {w : World} {K : PySem.W.Frag} {mg : Str → Option Value} {base : Heap}
def spWish2 (K : PySem.W.Frag) (C : Addr) : Sp := fun vs H Q _ => ∃ (N N2 : Addr → Prop) (m u : Addr) (v1 v2 v3 : V) (d1 d2 d3 : PyData) (sr sd ss sw : Nat) (x : HallH), vs = [.ref m, .ref u] ∧ HObj N K C H m x ∧ HallOk sr sd ss sw x ∧ sr ≤ 60 ∧ ss ≤ 60 ∧ sw ≤ 60 ∧ FT H u [v1, v2, v3] ∧ Th N2 H v1 d1 ∧ Th N2 H v2 d2 ∧ Th N2 H v3 d3 ∧ ∀ H', Same H H' → Q (.bl (wish2B x d1 d2 d3)) H'
theorem c_wish2 {c : CA} {C : Addr} {tM : Tok} (T : Txt P w K mg base c) (hMH : mg "MOST_HEFT" = some (.int 9999999 tM)) (mrooms : C8.Met P w K mg base 1 C "rooms" (spM_rooms K C) []) (mwalkers : C8.Met P w K mg base 1 C "walkers" (spM_walkers K C) []) (mstones : C8.Met P w K mg base 1 C "stones" (spM_stones K C) []) (cis_whole : C8.Cal P w K mg base 1 "is_whole" spWholeA [])
    {f : Addr} {fd : FuncData} (F : C8.Def K mg "is_wish_of_two" s_is_wish_of_two f fd) (b : Binds K fd ["hall", "wish"] []) : C8.Cal P w K mg base 2 "is_wish_of_two" (spWish2 K C) [] := by
  refine C8.cal0 F b .nil sc_is_wish_of_two (fun vs H Q E h => ?_) (fun cdv A outer s H vs Q E hr h => ?_)
  · obtain ⟨N, N2, m, u, v1, v2, v3, d1, d2, d3, sr, sd, ss, sw, x, rfl, _⟩ := h
    rfl
  · obtain ⟨N, N2, m, u, v1, v2, v3, d1, d2, d3, sr, sd, ss, sw, x, rfl, ho, ok, b1, b3, b4, f, t1, t2, t3, q⟩ := h
    have hu := hu_of hr
    have hu6 := hu64 hr
    refine ⟨_, (C8.pss_cut (ps_asg (pv 1) (pg_tupK (K := K) (n := 3) rfl (pgs_cons (pg_name (i := 2) sc_is_wish_of_two.nd rfl (.inl rfl)) (pgs_cons (pg_name (i := 3) sc_is_wish_of_two.nd rfl (.inl rfl)) (pgs_cons (pg_name (i := 4) sc_is_wish_of_two.nd rfl (.inl rfl)) pgs_nil)))))
  (pss_cons (ps_if (pt_cmpR (op_eqT (K := K) hu6) (pv 2) pe_str (nomark _)) (pss_one (ps_ret (pe_andK (K := K) (pe_cmpR (op_inT (K := K) hu6) (pv 3) (C8.pe_mt0 mwalkers hr (by decide) (pv 0)) (by rfl)) (pe_one (pe_cmpR (op_inT (K := K) hu6) (pv 4) (C8.pe_mt0 mrooms hr (by decide) (pv 0)) (by rfl)))))) pss_nil)
  (pss_cons (ps_if (pt_cmpR (op_eqT (K := K) hu6) (pv 2) pe_str (nomark _)) (pss_one (ps_ret (pe_andK (K := K) (pe_cmpR (op_inT (K := K) hu6) (pv 3) (C8.pe_mt0 mstones hr (by decide) (pv 0)) (by rfl)) (pe_one (pe_cmpR (op_inT (K := K) hu6) (pv 4) (C8.pe_mt0 mrooms hr (by decide) (pv 0)) (by rfl)))))) pss_nil)
  (pss_cons (ps_if (pt_cmpR (op_eqT (K := K) hu6) (pv 2) pe_str (nomark _)) (pss_one (ps_ret (pe_andK (K := K) (pe_cmpR (op_inT (K := K) hu6) (pv 3) (C8.pe_mt0 mstones hr (by decide) (pv 0)) (by rfl)) (pe_one (pe_cmpR (op_inT (K := K) hu6) (pv 4) (C8.pe_mt0 mwalkers hr (by decide) (pv 0)) (by rfl)))))) pss_nil)
  (pss_cons (ps_if (pt_cmpR (op_eqT (K := K) hu6) (pv 2) pe_str (nomark _)) (pss_one (ps_ret (pe_andK (K := K) (pe_cmpR (op_inT (K := K) hu6) (pv 3) (C8.pe_mt0 mrooms hr (by decide) (pv 0)) (by rfl)) (pe_andK (K := K) (C8.pe_c cis_whole hr (by decide) (by rfl) (pa_cons (pv 4) pa_nil)) (pe_one (pe_chain op_le op_le pe_int (pv 4) (pe_glob (v := .int 9999999) (by rfl) hMH ⟨_, rfl⟩))))))) pss_nil)
  (pss_one (ps_ret pe_bl))))))), ?_⟩
    obtain ⟨dx, _, _, _, _, _, _, _, hm⟩ := ho.ins
    refine ⟨fun σ Z => σ = [some (.ref m), some (.ref u), some v1, some v2, some v3] ∧ Z = H, ?_, ?_⟩
    · exact ⟨.ref u, rfl, u, _, rfl, f.sqT, rfl, _, _, rfl, _, _, rfl, _, _, rfl, rfl, rfl, rfl⟩
    rintro σ1 G1 ⟨rfl, rfl⟩
    unfold wish2B at q
    · refine ⟨v1, rfl, _, _, rfl, t1.hit, _, rfl, ?_⟩
      cases ca : isS d1 (Str.ofString "at") with
      | true =>
        refine iteT ?_
        rw [ca, if_pos rfl] at q
        refine ⟨v2, rfl, .ref m, rfl, m, dx, _, rfl, hm, rfl, N, m, x, rfl, ho, fun l nl => ⟨l, x.walkers.map WalkH.name, _, rfl, .inl (.inl (.inl (by rw [upd_same, List.map_map]; rfl))), (t2.same (same_new nl)).hit, ?_⟩⟩
        rw [if_neg Bool.false_ne_true]
        refine ⟨_, truBo, ?_⟩
        cases c2 : (x.walkers.map WalkH.name).any (isS d2) with
        | false =>
          rw [c2, Bool.false_and] at q
          exact iteF (q _ (same_new nl))
        | true =>
          rw [c2, Bool.true_and] at q
          refine iteT ?_
          have s1 := same_new nl (o := .lst (x.walkers.map fun z => V.str z.name))
          generalize upd G1 l (.lst (x.walkers.map fun z => V.str z.name)) = H1 at s1
          refine ⟨v3, rfl, .ref m, rfl, m, dx, _, rfl, s1 _ _ hm, rfl, N, m, x, rfl, ho.same s1, fun l2 nl2 => ⟨l2, x.rooms, _, rfl, .inl (.inl (.inl (upd_same))), (t3.same (s1.trans (same_new nl2))).hit, ?_⟩⟩
          rw [if_neg Bool.false_ne_true]
          exact q _ (s1.trans (same_new nl2))
      | false =>
      rw [ca, if_neg Bool.false_ne_true] at q
      refine iteF ?_
      refine ⟨v1, rfl, _, _, rfl, t1.hit, _, rfl, ?_⟩
      cases cb : isS d1 (Str.ofString "lies") with
      | true =>
        refine iteT ?_
        rw [cb, if_pos rfl] at q
        refine ⟨v2, rfl, .ref m, rfl, m, dx, _, rfl, hm, rfl, N, m, x, rfl, ho, fun l nl => ⟨l, x.stones.map Prod.fst, _, rfl, .inl (.inl (.inl (by rw [upd_same, List.map_map]; rfl))), (t2.same (same_new nl)).hit, ?_⟩⟩
        rw [if_neg Bool.false_ne_true]
        refine ⟨_, truBo, ?_⟩
        cases c2 : (x.stones.map Prod.fst).any (isS d2) with
        | false =>
          rw [c2, Bool.false_and] at q
          exact iteF (q _ (same_new nl))
        | true =>
          rw [c2, Bool.true_and] at q
          refine iteT ?_
          have s1 := same_new nl (o := .lst (x.stones.map fun z => V.str z.1))
          generalize upd G1 l (.lst (x.stones.map fun z => V.str z.1)) = H1 at s1
          refine ⟨v3, rfl, .ref m, rfl, m, dx, _, rfl, s1 _ _ hm, rfl, N, m, x, rfl, ho.same s1, fun l2 nl2 => ⟨l2, x.rooms, _, rfl, .inl (.inl (.inl (upd_same))), (t3.same (s1.trans (same_new nl2))).hit, ?_⟩⟩
          rw [if_neg Bool.false_ne_true]
          exact q _ (s1.trans (same_new nl2))
      | false =>
      rw [cb, if_neg Bool.false_ne_true] at q
      refine iteF ?_
      refine ⟨v1, rfl, _, _, rfl, t1.hit, _, rfl, ?_⟩
      cases cc : isS d1 (Str.ofString "held") with
      | true =>
        refine iteT ?_
        rw [cc, if_pos rfl] at q
        refine ⟨v2, rfl, .ref m, rfl, m, dx, _, rfl, hm, rfl, N, m, x, rfl, ho, fun l nl => ⟨l, x.stones.map Prod.fst, _, rfl, .inl (.inl (.inl (by rw [upd_same, List.map_map]; rfl))), (t2.same (same_new nl)).hit, ?_⟩⟩
        rw [if_neg Bool.false_ne_true]
        refine ⟨_, truBo, ?_⟩
        cases c2 : (x.stones.map Prod.fst).any (isS d2) with
        | false =>
          rw [c2, Bool.false_and] at q
          exact iteF (q _ (same_new nl))
        | true =>
          rw [c2, Bool.true_and] at q
          refine iteT ?_
          have s1 := same_new nl (o := .lst (x.stones.map fun z => V.str z.1))
          generalize upd G1 l (.lst (x.stones.map fun z => V.str z.1)) = H1 at s1
          refine ⟨v3, rfl, .ref m, rfl, m, dx, _, rfl, s1 _ _ hm, rfl, N, m, x, rfl, ho.same s1, fun l2 nl2 => ⟨l2, x.walkers.map WalkH.name, _, rfl, .inl (.inl (.inl (by rw [upd_same, List.map_map]; rfl))), (t3.same (s1.trans (same_new nl2))).hit, ?_⟩⟩
          rw [if_neg Bool.false_ne_true]
          exact q _ (s1.trans (same_new nl2))
      | false =>
      rw [cc, if_neg Bool.false_ne_true] at q
      refine iteF ?_
      refine ⟨v1, rfl, _, _, rfl, t1.hit, _, rfl, ?_⟩
      cases cd : isS d1 (Str.ofString "bears") with
      | false =>
        rw [cd, if_neg Bool.false_ne_true] at q
        exact iteF (q _ fun _ _ e => e)
      | true =>
        rw [cd, if_pos rfl] at q
        refine iteT ?_
        refine ⟨v2, rfl, .ref m, rfl, m, dx, _, rfl, hm, rfl, N, m, x, rfl, ho, fun l nl => ⟨l, x.rooms, _, rfl, .inl (.inl (.inl upd_same)), (t2.same (same_new nl)).hit, ?_⟩⟩
        rw [if_neg Bool.false_ne_true]
        refine ⟨_, truBo, ?_⟩
        cases c2 : x.rooms.any (isS d2) with
        | false =>
          rw [c2, Bool.false_and] at q
          exact iteF (q _ (same_new nl))
        | true =>
          rw [c2, Bool.true_and] at q
          have q := q _ (same_new nl (o := .lst (x.rooms.map V.str)))
          refine iteT ⟨v3, rfl, N2, v3, d3, rfl, t3.same (same_new nl), ⟨_, truBo, ?_⟩⟩
          cases c3 : wholeB d3 with
          | false =>
            have e : bearB d3 = false := by cases d3 <;> first | rfl | cases c3
            rw [e] at q
            exact iteF q
          | true =>
            obtain ⟨i, rfl, rfl⟩ : ∃ i, d3 = .int i ∧ v3 = .int i := by
              cases t3 with
              | int i => exact ⟨i, rfl, rfl⟩
              | _ => cases c3
            have q : Q (.bl (decide (0 ≤ i) && decide (i ≤ 9999999))) _ := q
            refine iteT ⟨.int i, rfl, _, _, rfl, rfl, _, rfl, ?_⟩
            by_cases c4 : (0 : Int) ≤ i
            · rw [decide_eq_true c4, Bool.true_and] at q
              rw [show decide ((0 : Int) ≤ i) = true from decide_eq_true c4]
              exact iteT ⟨_, _, rfl, rfl, q⟩
            · rw [decide_eq_false c4, Bool.false_and] at q
              rw [show decide ((0 : Int) ≤ i) = false from decide_eq_false c4]
              exact iteF q
def spIsWish (K : PySem.W.Frag) (C : Addr) : Sp := fun vs H Q _ => ∃ (N N2 : Addr → Prop) (m : Addr) (v : V) (d : PyData) (sr sd ss sw : Nat) (x : HallH), vs = [.ref m, v] ∧ HObj N K C H m x ∧ HallOk sr sd ss sw x ∧ sr ≤ 60 ∧ ss ≤ 60 ∧ sw ≤ 60 ∧ Th N2 H v d ∧ ShortD d ∧ ∀ H', Same H H' → Q (.bl (isWishB x d)) H'
theorem c_isWish {c : CA} {C : Addr} (T : Txt P w K mg base c) (cis_name : C8.Cal P w K mg base 1 "is_name" (spIsName K) []) (cis_wish_of_two : C8.Cal P w K mg base 2 "is_wish_of_two" (spWish2 K C) [])
    {f : Addr} {fd : FuncData} (F : C8.Def K mg "is_wish" s_is_wish f fd) (b : Binds K fd ["hall", "thing"] []) : C8.Cal P w K mg base 3 "is_wish" (spIsWish K C) [] := by
  refine C8.cal0 F b .nil sc_is_wish (fun vs H Q E h => ?_) (fun cdv A outer s H vs Q E hr h => ?_)
  · obtain ⟨N, N2, m, v, d, sr, sd, ss, sw, x, rfl, _⟩ := h
    rfl
  · obtain ⟨N, N2, m, v, d, sr, sd, ss, sw, x, rfl, ho, ok, b1, b3, b4, th, sh, q⟩ := h
    have hu := hu_of hr
    have hu6 := hu64 hr
    refine ⟨_, (pss_cons (ps_if (pt_not (pt_truK (K := K) (pe_callB (call_isAny) (by rfl) T.b_isinstance bt_isinstance (pa_cons (pv 1) (pa_cons (pe_bltn (v := .ty "tuple") (by rfl) T.b_tuple (by decide +kernel) rfl) pa_nil))) (fun _ => rfl))) (pss_one (ps_ret pe_bl)) pss_nil)
  (pss_cons (ps_if (pt_cmpR (op_eqX (K := K) hu6) (pe_callB (call_lenG (K := K)) (by rfl) T.b_len bt_len (pa_cons (pv 1) pa_nil)) pe_int (nomark _)) (C8.pss_cut (ps_asg (pv 1) (pg_tupK (K := K) (n := 2) rfl (pgs_cons (pg_name (i := 2) sc_is_wish.nd rfl (.inl rfl)) (pgs_cons (pg_name (i := 3) sc_is_wish.nd rfl (.inl rfl)) pgs_nil))))
  (pss_one (ps_ret (pe_andK (K := K) (pe_cmpR (op_eqT (K := K) hu6) (pv 2) pe_str (nomark _)) (pe_one (C8.pe_c cis_name hr (by decide) (by rfl) (pa_cons (pv 3) pa_nil))))))) pss_nil)
  (pss_one (ps_ret (pe_andK (K := K) (pe_cmpR (op_eqX (K := K) hu6) (pe_callB (call_lenG (K := K)) (by rfl) T.b_len bt_len (pa_cons (pv 1) pa_nil)) pe_int (nomark _)) (pe_one (C8.pe_c cis_wish_of_two hr (by decide) (by rfl) (pa_cons (pv 0) (pa_cons (pv 1) pa_nil))))))))), ?_⟩
    have no : isWishB x d = false → Q (.bl false) H := fun e => by
      have := q H fun _ _ e => e
      rwa [e] at this
    refine ⟨v, rfl, th.isT (.inl rfl) ⟨_, truBo, ?_⟩⟩
    cases h1 : isTy "tuple" d with
    | false => exact iteT (no (by cases d <;> first | rfl | cases h1))
    | true =>
    refine iteF ?_
    cases th with
    | @tup u vs ds f qs =>
      have ll := qs.length
      refine ⟨.ref u, rfl, .inl ⟨_, .inr f.sqT, eqL ⟨_, rfl, ?_⟩⟩⟩
      by_cases c2 : ds.length = 2
      · rw [show decide ((vs.length : Int) = 2) = true from decide_eq_true (by omega)]
        refine iteT ?_
        obtain ⟨dw, dd, rfl⟩ : ∃ a b, ds = [a, b] := by
          match ds, c2 with
          | [a, b], _ => exact ⟨a, b, rfl⟩
        cases qs with
        | @cons v1 _ vs1 _ t1 qs =>
        cases qs with
        | @cons v2 _ vs2 _ t2 qs =>
        cases qs
        have q : ∀ H', Same H H' → Q (.bl (isS dw (Str.ofString "open") && nameD dd)) H' := q
        refine ⟨fun σ Z => σ = [some (.ref m), some (.ref u), some v1, some v2] ∧ Z = H, ?_, ?_⟩
        · exact ⟨.ref u, rfl, u, _, rfl, f.sqT, rfl, _, _, rfl, _, _, rfl, rfl, rfl, rfl⟩
        rintro σ1 G1 ⟨rfl, rfl⟩
        refine ⟨v1, rfl, _, _, rfl, t1.hit, ⟨_, truBo, ?_⟩⟩
        cases c3 : isS dw (Str.ofString "open") with
        | false =>
          rw [c3, Bool.false_and] at q
          exact iteF (q _ fun _ _ e => e)
        | true =>
          rw [c3, Bool.true_and] at q
          refine iteT ⟨v2, rfl, v2, _, rfl, t2.hit, ?_⟩
          cases t2 with
          | @str z hz => exact .inl ⟨z, rfl, sh z (by simp), fun H' s => q H' s⟩
          | non => exact .inr ⟨nofun, q _ fun _ _ e => e⟩
          | bl b => exact .inr ⟨nofun, q _ fun _ _ e => e⟩
          | int i => exact .inr ⟨nofun, q _ fun _ _ e => e⟩
          | tup e q' => exact .inr ⟨nofun, q _ fun _ _ e => e⟩
          | lst n e q' => exact .inr ⟨nofun, q _ fun _ _ e => e⟩
          | dct n e => exact .inr ⟨nofun, q _ fun _ _ e => e⟩
      rw [show decide ((vs.length : Int) = 2) = false from decide_eq_false (by omega)]
      refine iteF ?_
      refine ⟨.ref u, rfl, .inl ⟨_, .inr f.sqT, eqL ⟨_, truBo, ?_⟩⟩⟩
      by_cases c3 : ds.length = 3
      rotate_left
      · rw [show decide ((vs.length : Int) = 3) = false from decide_eq_false (by omega)]
        refine iteF (no ?_)
        match ds, c2, c3 with
        | [], _, _ => rfl
        | [_], _, _ => rfl
        | [_, _], c, _ => exact absurd rfl c
        | [_, _, _], _, c => exact absurd rfl c
        | _ :: _ :: _ :: _ :: _, _, _ => rfl
      rw [show decide ((vs.length : Int) = 3) = true from decide_eq_true (by omega)]
      refine iteT ?_
      obtain ⟨da, db, dc, rfl⟩ : ∃ a b c, ds = [a, b, c] := by
        match ds, c3 with
        | [a, b, c], _ => exact ⟨a, b, c, rfl⟩
      cases qs with
      | @cons v1 _ vs1 _ t1 qs =>
      cases qs with
      | @cons v2 _ vs2 _ t2 qs =>
      cases qs with
      | @cons v3 _ vs3 _ t3 qs =>
      cases qs
      exact ⟨.ref m, rfl, .ref u, rfl, N, N2, m, u, v1, v2, v3, da, db, dc, sr, sd, ss, sw, x, rfl, ho, ok, b1, b3, b4, f, t1, t2, t3, q⟩
    | _ => cases h1
def atV : Option Nat → V
  | none => .non
  | some k => .int k
/-- where it is no goal: of itself, or at its first part that is no wish -/
def needB (x : HallH) : PyData → Option (Option Nat)
  | .tuple ds => if 8 < ds.length then some none else (ds.findIdx? fun d => !isWishB x d).map some
  | _ => some none
def partsD : PyData → List PyData
  | .tuple ds => ds
  | _ => []
def spNeed (K : PySem.W.Frag) (C CG : Addr) : Sp := fun vs H Q E => ∃ (N N2 : Addr → Prop) (m : Addr) (v : V) (d : PyData) (sr sd ss sw : Nat) (x : HallH), vs = [.ref m, v] ∧ HObj N K C H m x ∧ HallOk sr sd ss sw x ∧ sr ≤ 60 ∧ ss ≤ 60 ∧ sw ≤ 60 ∧ Th N2 H v d ∧ (∀ z ∈ partsD d, ShortD z) ∧ (needB x d = none → ∀ H', Same H H' → Q .non H') ∧
  ∀ o, needB x d = some o → ∀ dd H', H dd = none → Same H H' → H' dd = some (.xd [("at", atV o)]) → E (.ref CG) (some dd) H'
theorem c_need {c : CA} {C : Addr} {tM : Tok} (T : Txt P w K mg base c) (hMW : mg "MOST_WISHES" = some (.int 8 tM)) (hEnum : mg "enumerate" = none) (rNoGoal : FnOk P w K mg base CX0 1 c.NoGoal.fI c.NoGoal.fd ["self", "at"] (spI1x K "at")) (cis_wish : C8.Cal P w K mg base 3 "is_wish" (spIsWish K C) [])
    {f : Addr} {fd : FuncData} (F : C8.Def K mg "need_goal" s_need_goal f fd) (b : Binds K fd ["hall", "thing"] []) : CalX P w K mg base 4 "need_goal" (spNeed K C c.NoGoal.C) := by
  refine calX F b sc_need_goal (fun vs H Q E h => ?_) (fun cdv A outer s H vs Q E hr h => ?_)
  · obtain ⟨N, N2, m, v, d, sr, sd, ss, sw, x, rfl, _⟩ := h
    rfl
  · obtain ⟨N, N2, m, v, d, sr, sd, ss, sw, x, rfl, ho, ok, b1, b3, b4, th, sh, q1, q2⟩ := h
    have hu := hu_of hr
    have hu6 := hu64 hr
    refine ⟨_, (pss_cons (ps_if (PW.pt (pw_or (pt_not (pt_truK (K := K) (pe_callB (call_isAny) (by rfl) T.b_isinstance bt_isinstance (pa_cons (pv 1) (pa_cons (pe_bltn (v := .ty "tuple") (by rfl) T.b_tuple (by decide +kernel) rfl) pa_nil))) (fun _ => rfl))) (pw_or1 (pt_cmpR (op_gt) (pe_callB (call_lenG (K := K)) (by rfl) T.b_len bt_len (pa_cons (pv 1) pa_nil)) (pe_glob (v := .int 8) (by rfl) hMW ⟨_, rfl⟩) (nomark _))))) (pss_one (ps_raise rfl (takes_of rfl rfl rfl rfl) (pmk_x1 T.x_NoGoal.xc T.x_NoGoal.off T.x_NoGoal.iC T.x_NoGoal.tI rNoGoal (hr.mono (by decide)) T.x_NoGoal.bp (by rfl) T.x_NoGoal.gC (pa_cons pe_non pa_nil)))) pss_nil)
  (pss_one (ps_for (passes_of rfl) rfl (pi_enumS (K := K) (by rfl) hEnum (pa_cons (pv 1) pa_nil)) (pg_tupK (K := K) (n := 2) rfl (pgs_cons (pg_name (i := 2) sc_need_goal.nd rfl (.inl rfl)) (pgs_cons (pg_name (i := 3) sc_need_goal.nd rfl (.inl rfl)) pgs_nil)))
    (pss_one (ps_if (pt_not (pt_truK (K := K) (C8.pe_c cis_wish hr (by decide) (by rfl) (pa_cons (pv 0) (pa_cons (pv 3) pa_nil))) (fun _ => rfl))) (pss_one (ps_raise rfl (takes_of rfl rfl rfl rfl) (pmk_x1 T.x_NoGoal.xc T.x_NoGoal.off T.x_NoGoal.iC T.x_NoGoal.tI rNoGoal (hr.mono (by decide)) T.x_NoGoal.bp (by rfl) T.x_NoGoal.gC (pa_cons (pv 2) pa_nil)))) pss_nil))))), ?_⟩
    have row : ∀ (o : Option Nat) (Z : Hp), needB x d = some o → Same H Z → ∃ yv, [atV o] = [yv] ∧ ∀ dd H', Z dd = none → Same Z H' → H' dd = some (.xd [("at", yv)]) → E (.ref c.NoGoal.C) (some dd) H' := fun o Z he sZ => ⟨_, rfl, fun dd H' nd s' ed => q2 o he dd H' (sZ.free nd) (sZ.trans s') ed⟩
    refine ⟨v, rfl, th.isT (.inl rfl) ⟨_, truBo, ?_⟩⟩
    cases h1 : isTy "tuple" d with
    | false => exact iteT (row none H (by cases d <;> first | rfl | cases h1) fun _ _ e => e)
    | true =>
    refine iteF ?_
    cases th with
    | @tup u vs ds f qs =>
      have ll := qs.length
      refine ⟨.ref u, rfl, .inl ⟨_, .inr f.sqT, _, _, rfl, rfl, _, rfl, ?_⟩⟩
      by_cases c8 : 8 < ds.length
      · rw [show decide ((8 : Int) < (vs.length : Int)) = true from decide_eq_true (by omega)]
        exact iteT (row none H (show (if 8 < ds.length then some none else (ds.findIdx? fun d => !isWishB x d).map some) = _ from by rw [if_pos c8]) fun _ _ e => e)
      rw [show decide ((8 : Int) < (vs.length : Int)) = false from decide_eq_false (by omega)]
      refine iteF ?_
      have en : needB x (.tuple ds) = (ds.findIdx? fun d => !isWishB x d).map some := (show (if 8 < ds.length then some none else (ds.findIdx? fun d => !isWishB x d).map some) = _ from by rw [if_neg c8])
      obtain ⟨kind, ew⟩ := SqB.of (K := K) (.inr f.sqT : SqL K H u vs ∨ SqT K H u vs)
      refine ⟨.ref u, rfl, u, vs, kind, rfl, ew, fun J G wk hG => ?_⟩
      refine for_it wk (fun k σ Z => (∀ i e, i < k → ds[i]? = some e → isWishB x e = true) ∧ ∃ d2 d3 : Option V, σ = [some (.ref m), some (.ref u), d2, d3] ∧ Same H Z) ⟨fun i e hi => absurd hi (Nat.not_lt_zero _), _, _, rfl, fun _ _ e => e⟩ (fun k σ Z _ pv => ?_) (fun k yv σ Z Z' hk pv hy => ?_) (fun σ Z pv => ?_)
      · obtain ⟨_, _, _, _, sZ⟩ := pv
        exact hG Z (ew.same sZ)
      · obtain ⟨gd, d2, d3, rfl, sZ⟩ := pv
        obtain ⟨Tp, a0, y0, rfl, nT, rfl, ha0, hy0⟩ := hy
        cases ha0
        dsimp only at hy0
        have sT := same_new nT (o := .tup [.int (k : Nat), y0])
        have eT : (upd Z Tp (.tup [.int (k : Nat), y0])) Tp = some (.tup [.int (k : Nat), y0]) := upd_same
        have sZ := sZ.trans sT
        generalize upd Z Tp (.tup [.int (k : Nat), y0]) = Z2 at sZ eT
        obtain ⟨dk, hdk, tk⟩ := (qs.same sZ).at hy0
        refine ⟨Tp, _, rfl, .inl (.inl eT), rfl, _, _, rfl, _, _, rfl, rfl, .ref m, rfl, y0, rfl, N, N2, m, y0, dk, sr, sd, ss, sw, x, rfl, ho.same sZ, ok, b1, b3, b4, tk, sh dk (List.mem_of_getElem? hdk), fun H' s' => ⟨_, truBo, ?_⟩⟩
        cases hb : isWishB x dk with
        | true =>
          refine iteF ⟨fun i e hi he => ?_, _, _, rfl, sZ.trans s'⟩
          by_cases c : i < k
          · exact gd i e c he
          · have ei : i = k := by omega
            rw [ei, hdk] at he
            cases he
            exact hb
        | false =>
          refine iteT ⟨.int (k : Nat), rfl, row (some k) H' ?_ (sZ.trans s')⟩
          rw [en, List.findIdx?_eq_some_iff_getElem.mpr ⟨(List.getElem?_eq_some_iff.mp hdk).1, ?_, fun j hj => ?_⟩]
          · rfl
          · rw [(List.getElem?_eq_some_iff.mp hdk).2, hb]
            rfl
          · rw [gd j _ hj (List.getElem?_eq_getElem _)]
            decide
      · obtain ⟨gd, d2, d3, rfl, sZ⟩ := pv
        refine q1 ?_ _ sZ
        rw [en, List.findIdx?_eq_none_iff.mpr fun d hd => ?_]
        · rfl
        · obtain ⟨i, hi⟩ := List.mem_iff_getElem?.mp hd
          rw [gd i d (by rw [ll]; exact (List.getElem?_eq_some_iff.mp hi).1) hi]
          rfl
    | _ => cases h1
end
end Wd

set_option Elab.async false
set_option linter.all false
set_option maxRecDepth 100000
set_option maxHeartbeats 4000000
namespace Wd
open PySem PySem.Spec PyProof.Rows L2
abbrev s__law_is_whole : Stmt := topS 30
theorem sc__law_is_whole : FnScope ["thing", "least", "upto"] ["thing", "least", "upto"] (C8.fnScope s__law_is_whole) := ⟨rfl, rfl, rfl, by decide +kernel, rfl, by decide +kernel, by decide +kernel⟩
abbrev s__law_is_wish : Stmt := topS 32
theorem sc__law_is_wish : FnScope ["hall", "thing", "folk", "stones", "word", "known", "pair", "one"] ["hall", "thing"] (C8.fnScope s__law_is_wish) := ⟨rfl, rfl, rfl, by decide +kernel, rfl, by decide +kernel, by decide +kernel⟩
section
variable {P : Program} {w : World} {K : PySem.W.Frag} {mg : Str → Option Value} {base : Heap}
def spWholeL : Sp := fun vs H Q _ => ∃ (N : Addr → Prop) (v : V) (d : PyData), vs = [v, .int 0, .int 9999999] ∧ Th N H v d ∧ Q (.bl (bearB d)) H
theorem c_wholeL {c : CA} (T : Txt P w K mg base c) (hBool : mg "bool" = none) {f : Addr} {fd : FuncData} (F : C8.Def K mg "_law_is_whole" s__law_is_whole f fd) (b : Binds K fd ["thing", "least", "upto"] []) : C8.Cal P w K mg base 1 "_law_is_whole" spWholeL [] := by
  refine C8.cal0 F b .nil sc__law_is_whole (fun vs H Q E h => ?_) (fun cdv A outer s H vs Q E hr h => ?_)
  · obtain ⟨N, v, d, rfl, _⟩ := h
    rfl
  · obtain ⟨N, v, d, rfl, th, q⟩ := h
    have hu := hu_of hr
    have hu6 := hu64 hr
    refine ⟨_, (pss_one (ps_ret (pe_andK (K := K) (pe_callB (call_isAny) (by rfl) T.b_isinstance bt_isinstance (pa_cons (pv 0) (pa_cons (pe_bltn (v := .ty "int") (by rfl) T.b_int (by decide +kernel) rfl) pa_nil))) (pe_andK (K := K) (pe_notK (K := K) (pe_callB (call_isAny) (by rfl) T.b_isinstance bt_isinstance (pa_cons (pv 0) (pa_cons (pe_bltn (v := .ty "bool") (by rfl) hBool (by decide +kernel) rfl) pa_nil)))) (pe_one (pe_chain op_le op_le (pv 1) (pv 0) (pv 2))))))), ?_⟩
    refine ⟨v, rfl, th.isT (.inr (.inl rfl)) ⟨_, truBo, ?_⟩⟩
    cases h1 : isTy "int" d with
    | false =>
      have e : bearB d = false := by cases d <;> first | rfl | cases h1
      rw [e] at q
      exact iteF q
    | true =>
    refine iteT ⟨v, rfl, th.isT (.inr (.inr (.inl rfl))) ⟨_, truBo, ⟨_, truBo, ?_⟩⟩⟩
    cases h2 : isTy "bool" d with
    | true =>
      have e : bearB d = false := by cases d <;> first | rfl | cases h2
      rw [e] at q
      exact iteF q
    | false =>
    refine iteT ?_
    obtain ⟨i, rfl, rfl⟩ : ∃ i, d = .int i ∧ v = .int i := by
      have e : wholeB d = true := by
        have : wholeB d = (isTy "int" d && !isTy "bool" d) := by cases d <;> rfl
        rw [this, h1, h2]
        rfl
      cases th with
      | int i => exact ⟨i, rfl, rfl⟩
      | _ => cases e
    have q : Q (.bl (decide (0 ≤ i) && decide (i ≤ 9999999))) _ := q
    refine ⟨.int 0, rfl, .int i, rfl, _, _, rfl, rfl, _, rfl, ?_⟩
    by_cases c4 : (0 : Int) ≤ i
    · rw [decide_eq_true c4, Bool.true_and] at q
      rw [show decide ((0 : Int) ≤ i) = true from decide_eq_true c4]
      exact iteT ⟨.int 9999999, rfl, _, _, rfl, rfl, q⟩
    · rw [decide_eq_false c4, Bool.false_and] at q
      rw [show decide ((0 : Int) ≤ i) = false from decide_eq_false c4]
      exact iteF q
theorem wish_noS {x : HallH} {dw : PyData} {r : List PyData} (h : isTy "str" dw = false) : isWishB x (.tuple (dw :: r)) = false := by
  have e : ∀ t, isS dw t = false := fun t => by cases dw <;> first | rfl | cases h
  match r with
  | [] => rfl
  | [d] => show (isS dw _ && nameD d) = false; rw [e, Bool.false_and]
  | [a, b] => show wish2B x dw a b = false; unfold wish2B; rw [e, e, e, e]; rfl
  | _ :: _ :: _ :: _ => rfl
theorem eqS {K : PySem.W.Frag} {a b : Str} {H : Hp} {Q : VK} (q : Q (.bl (decide (b = a))) H) : rEqX K (.str a) (.str b) H Q := .inl ⟨rfl, by
  have : decide (V.str a = V.str b) = decide (b = a) := by
    by_cases c : b = a
    · rw [decide_eq_true c, decide_eq_true (by rw [c])]
    · rw [decide_eq_false c, decide_eq_false (fun e => c (by injection e with e; exact e.symm))]
  rw [this]
  exact q⟩
def spLIsWish (K : PySem.W.Frag) : Sp := fun vs H Q _ => ∃ (N N2 : Addr → Prop) (h : Addr) (v : V) (d : PyData) (sr sd ss sw : Nat) (x : HallH), vs = [.ref h, v] ∧ HallAt N K H h x ∧ HallOk sr sd ss sw x ∧ sr ≤ 60 ∧ ss ≤ 60 ∧ sw ≤ 60 ∧ Th N2 H v d ∧ ShortD d ∧ ∀ H', Same H H' → Q (.bl (isWishB x d)) H'
theorem c_lIsWish {c : CA} (T : Txt P w K mg base c) (c_law_is_whole : C8.Cal P w K mg base 1 "_law_is_whole" spWholeL []) {f : Addr} {fd : FuncData} (F : C8.Def K mg "_law_is_wish" s__law_is_wish f fd) (b : Binds K fd ["hall", "thing"] []) : C8.Cal P w K mg base 2 "_law_is_wish" (spLIsWish K) [] := by
  refine C8.cal0 F b .nil sc__law_is_wish (fun vs H Q E h => ?_) (fun cdv A outer s H vs Q E hr h => ?_)
  · obtain ⟨N, N2, h, v, d, sr, sd, ss, sw, x, rfl, _⟩ := h
    rfl
  · obtain ⟨N, N2, h, v, d, sr, sd, ss, sw, x, rfl, ha, ok, b1, b3, b4, th, sh, q⟩ := h
    have hu := hu_of hr
    have hu6 := hu64 hr
    refine ⟨_, (C8.pss_cut (ps_par (i := 2) (j := 3) rfl sc__law_is_wish.nd rfl rfl (by decide) rfl rfl (pa_cons (pe_lc (own := [("one", 7)]) rfl sc__law_is_wish.nd (pi_listK (K := K) (pe_dget hu (pv 0) pe_str (fun _ _ => rfl))) (blkOk_by (by kernel_rfl)) (fun _ _ _ _ _ => (pg_name (i := 7) sc__law_is_wish.nd rfl (.inl rfl))) (fun _ _ _ _ _ => pts_nil)
      (fun _ _ _ _ _ => (pe_ix (ixG (K := K)) (pv 7) pe_int (fun _ _ => rfl)))) (pa_cons (pe_callB (call_sortedD rfl) (by rfl) T.b_sorted bt_sorted (pa_cons (pe_dget hu (pv 0) pe_str (fun _ _ => rfl)) pa_nil)) pa_nil)) rfl)
  (pss_cons (ps_if (PW.pt (pw_or (pt_not (pt_truK (K := K) (pe_callB (call_isAny) (by rfl) T.b_isinstance bt_isinstance (pa_cons (pv 1) (pa_cons (pe_bltn (v := .ty "tuple") (by rfl) T.b_tuple (by decide +kernel) rfl) pa_nil))) (fun _ => rfl))) (pw_or (pt_cmpR (op_eq0 (K := K) hu6) (pv 1) (pe_tup pa_nil) (nomark _)) (pw_or1 (pt_not (pt_truK (K := K) (pe_callB (call_isAny) (by rfl) T.b_isinstance bt_isinstance (pa_cons (pe_ix (ixG (K := K)) (pv 1) pe_int (fun _ _ => rfl)) (pa_cons (pe_bltn (v := .ty "str") (by rfl) T.b_str (by decide +kernel) rfl) pa_nil))) (fun _ => rfl))))))) (pss_one (ps_ret pe_bl)) pss_nil)
  (pss_cons (ps_if (pt_cmpR (op_eqX (K := K) hu6) (pe_ix (ixG (K := K)) (pv 1) pe_int (fun _ _ => rfl)) pe_str (nomark _)) (C8.pss_cut (ps_set (i := 4) sc__law_is_wish.nd rfl (.inl rfl) (pe_ifExp (PW.pt (pw_and (pt_cmpR (op_eqX (K := K) hu6) (pe_callB (call_lenG (K := K)) (by rfl) T.b_len bt_len (pa_cons (pv 1) pa_nil)) pe_int (nomark _)) (pw_and1 (pt_truK (K := K) (pe_callB (call_isAny) (by rfl) T.b_isinstance bt_isinstance (pa_cons (pe_ix (ixG (K := K)) (pv 1) pe_int (fun _ _ => rfl)) (pa_cons (pe_bltn (v := .ty "str") (by rfl) T.b_str (by decide +kernel) rfl) pa_nil))) (fun _ => rfl))))) (pe_ix (ixG (K := K)) (pv 1) pe_int (fun _ _ => rfl)) pe_str))
  (pss_one (ps_ret (pe_andK (K := K) (pe_chain op_lt op_lt pe_int (pe_callB (call_lenG (K := K)) (by rfl) T.b_len bt_len (pa_cons (pv 4) pa_nil)) pe_int) (pe_one (pe_cmpR (op_eqL0 (K := K) hu6) (pe_lc (own := [("one", 7)]) rfl sc__law_is_wish.nd (pi_str (pv 4)) (blkOk_by (by kernel_rfl)) (fun _ _ _ _ _ => (pg_name (i := 7) sc__law_is_wish.nd rfl (.inl rfl))) (fun _ _ _ _ _ => (pts_one (pt_cmpR (op_notIn_sign) (pv 7) pe_str (by rfl))))
      (fun _ _ _ _ _ => (pv 7))) (pe_lst pa_nil) (nomark _))))))) pss_nil)
  (pss_cons (ps_if (pt_cmpR (op_neX (K := K) hu6) (pe_callB (call_lenG (K := K)) (by rfl) T.b_len bt_len (pa_cons (pv 1) pa_nil)) pe_int (nomark _)) (pss_one (ps_ret pe_bl)) pss_nil)
  (pss_cons (ps_if (pt_cmpR (op_eqX (K := K) hu6) (pe_ix (ixG (K := K)) (pv 1) pe_int (fun _ _ => rfl)) pe_str (nomark _)) (pss_one (ps_ret (pe_andK (K := K) (pe_cmpR (op_inT (K := K) hu6) (pe_ix (ixG (K := K)) (pv 1) pe_int (fun _ _ => rfl)) (pe_dget hu (pv 0) pe_str (fun _ _ => rfl)) (by rfl)) (pe_one (C8.pe_c c_law_is_whole hr (by decide) (by rfl) (pa_cons (pe_ix (ixG (K := K)) (pv 1) pe_int (fun _ _ => rfl)) (pa_cons pe_int (pa_cons pe_int pa_nil)))))))) pss_nil)
  (C8.pss_cut (ps_set (i := 5) sc__law_is_wish.nd rfl (.inl rfl) (pe_disp (pps_cons pe_str (pe_lst (pa_cons (pv 2) (pa_cons (pe_dget hu (pv 0) pe_str (fun _ _ => rfl)) pa_nil))) (pps_cons pe_str (pe_lst (pa_cons (pv 3) (pa_cons (pe_dget hu (pv 0) pe_str (fun _ _ => rfl)) pa_nil))) (pps_cons pe_str (pe_lst (pa_cons (pv 3) (pa_cons (pv 2) pa_nil))) pps_nil))) rfl rfl (by simp) (by decide)))
  (C8.pss_cut (ps_set (i := 6) sc__law_is_wish.nd rfl (.inl rfl) (pe_dget2 hu (pv 5) (pe_ix (ixG (K := K)) (pv 1) pe_int (fun _ _ => rfl)) (pe_lst (pa_cons (pe_lst pa_nil) (pa_cons (pe_lst pa_nil) pa_nil))) ⟨rfl, rfl, rfl, rfl⟩))
  (pss_one (ps_ret (pe_andK (K := K) (pe_cmpR (op_inT (K := K) hu6) (pe_ix (ixG (K := K)) (pv 1) pe_int (fun _ _ => rfl)) (pe_ix (ixG (K := K)) (pv 6) pe_int (fun _ _ => rfl)) (by rfl)) (pe_one (pe_cmpR (op_inT (K := K) hu6) (pe_ix (ixG (K := K)) (pv 1) pe_int (fun _ _ => rfl)) (pe_ix (ixG (K := K)) (pv 6) pe_int (fun _ _ => rfl)) (by rfl))))))))))))), ?_⟩
    obtain ⟨dA, st, wl, rA, dkv, wvs, n1, n2, n3, n4, n5, e1, e2, e3, e4, e5, e6, e7⟩ := id ha
    have wl2 : x.walkers.length ≤ 60 := Nat.le_trans ok.w2 b4
    have sl2 : x.stones.length ≤ 60 := Nat.le_trans ok.s2 b3
    have wvl : wvs.length = x.walkers.length := by rw [e6.length, List.length_map]
    refine ⟨fun σ Z => ∃ fl sl : Addr, σ = [some (.ref h), some v, some (.ref fl), some (.ref sl), none, none, none, none] ∧ Same H Z ∧ Z fl = some (.lst ((x.walkers.map WalkH.name).map V.str)) ∧ Z sl = some (.lst ((x.stones.map Prod.fst).map V.str)), ?_, ?_⟩
    · refine ⟨.ref h, rfl, h, .ref wl, rfl, DGet.k (k := .inr "walkers") e1, wl, rfl, ⟨_, .inl (.inl e5)⟩, fun D nD => ?_⟩
      refine lc_it (walk_list (a := wl) (xs := wvs)) (fun i Z => Same H Z ∧ Z D = some (.lst (((x.walkers.take i).map WalkH.name).map V.str))) ⟨same_new nD, upd_same⟩ (fun i Z _ pv => .inl (.inl (pv.1 _ _ e5))) (fun i y Z Z' hi pv hy => ?_) (fun Z pv => ?_)
      · obtain ⟨rfl, hv⟩ := hy
        obtain ⟨sZ, z1⟩ := pv
        obtain ⟨dd, hdd, dqv⟩ := e6.get hv
        rw [List.getElem?_map] at hdd
        obtain ⟨z, hz, rfl⟩ := Option.map_eq_some_iff.mp hdd
        obtain ⟨t, rfl, nt, et⟩ := walk_inv dqv
        rw [take_snoc hz, List.map_append, List.map_append]
        exact ⟨rfl, yes_if ⟨.ref t, by kernel_rfl, .inr (.inl ⟨t, _, 0, _, rfl, rfl, same_sqT sZ et, rfl, _, z1, by rw [List.length_map, List.length_map, List.length_take, sizeLine_eq]; omega, same_mut sZ nD, upd_same⟩)⟩⟩
      · obtain ⟨sZ, z1⟩ := pv
        rw [wvl, List.take_length] at z1
        refine ⟨.ref h, rfl, h, .ref st, rfl, DGet.k (k := .inr "stones") (sZ _ _ e1), st, _, _, rfl, .inl (sZ _ _ e4), stonesKv_keys _, by rw [List.length_map]; omega, fun ys l7 yp ysort n7 => ?_⟩
        have ey : ys = x.stones.map Prod.fst := sort_texts ysort ok.s3 yp
        subst ey
        exact ⟨_, _, rfl, D, l7, rfl, sZ.trans (same_new n7), same_new n7 _ _ z1, upd_same⟩
    rintro σ1 G1 ⟨fl, sl, rfl, s1, ef, es⟩
    have no : ∀ {Z : Hp}, Same H Z → isWishB x d = false → Q (.bl false) Z := fun {Z} sz e => by
      have := q Z sz
      rwa [e] at this
    refine ⟨v, rfl, (th.same s1).isT (.inl rfl) ⟨_, truBo, ?_⟩⟩
    cases h1 : isTy "tuple" d with
    | false => exact iteT (no s1 (by cases d <;> first | rfl | cases h1))
    | true =>
    refine iteF ?_
    cases th with
    | @tup u vs ds f qs =>
      have ll := qs.length
      refine ⟨.ref u, rfl, by show 0 ≤ sizeLine; decide, fun z nz => ?_⟩
      have k2 := same_new nz (o := .tup [])
      have s2 := s1.trans k2
      have ef := k2 _ _ ef
      have es := k2 _ _ es
      refine ⟨u, z, vs, rfl, rfl, (f.same s2).sqT, .inl (.inl upd_same), _, rfl, ?_⟩
      generalize upd G1 z (.tup []) = G2 at s2 ef es k2
      cases qs with
      | nil => exact iteT (no s2 rfl)
      | @cons v1 dw vs ds t1 qs =>
      refine iteF ?_
      have ix : ∀ {Z : Hp} {j : Int} {y : V} {Q2 : VK}, Same H Z → atI (v1 :: vs) j = some y → Q2 y Z → rIx K (.ref u) (.int j) Z Q2 := fun s e q => .inr (.inl ⟨u, _, _, _, rfl, rfl, (f.same s).sqT, e, q⟩)
      have a0 : atI (v1 :: vs) 0 = some v1 := atI_in (j := 0) rfl rfl
      refine ⟨.ref u, rfl, ix s2 a0 ((t1.same s2).isT (.inr (.inr (.inr rfl))) ⟨_, truBo, ?_⟩)⟩
      cases h2 : isTy "str" dw with
      | false => exact iteT (no s2 (wish_noS h2))
      | true =>
      refine iteF ?_
      obtain ⟨w0, rfl, rfl⟩ : ∃ s, dw = .str s ∧ v1 = .str s := by
        cases t1 with
        | @str s h => exact ⟨s, rfl, rfl⟩
        | non => cases h2
        | bl b => cases b <;> cases h2
        | int i => simp [isTy, tyName] at h2
        | tup _ _ => simp [isTy, tyName] at h2
        | lst _ _ _ => simp [isTy, tyName] at h2
        | dct _ _ => simp [isTy, tyName] at h2
      refine ⟨.ref u, rfl, ix s2 a0 (eqS ⟨_, rfl, ?_⟩)⟩
      by_cases co : Str.ofString "open" = w0
      · rw [decide_eq_true co]
        refine iteT ?_
        have emp : decide (NameOk (Str.ofString "")) = false := by decide +kernel
        refine ⟨fun σ Z => ∃ wd, σ = [some (.ref h), some (.ref u), some (.ref fl), some (.ref sl), some (V.str wd), none, none, none] ∧ Z = G2 ∧ wd.length ≤ 100000 ∧ isWishB x (.tuple (.str w0 :: ds)) = decide (NameOk wd), ?_, ?_⟩
        · refine ⟨.ref u, rfl, .inl ⟨_, .inr (f.same s2).sqT, eqL ⟨_, rfl, ?_⟩⟩⟩
          by_cases c2 : (.str w0 :: ds : List PyData).length = 2
          rotate_left
          · rw [show decide (((V.str w0 :: vs).length : Int) = 2) = false from decide_eq_false (by omega)]
            refine iteF (iteF ⟨_, rfl, rfl, by decide +kernel, ?_⟩)
            rw [emp]
            match ds, c2 with
            | [], _ => rfl
            | [_], c => exact absurd rfl c
            | [a, b], _ =>
              show wish2B x (.str w0) a b = false
              unfold wish2B
              subst co
              rfl
            | _ :: _ :: _ :: _, _ => rfl
          rw [show decide (((V.str w0 :: vs).length : Int) = 2) = true from decide_eq_true (by omega)]
          refine iteT ?_
          obtain ⟨dd, rfl⟩ : ∃ b, ds = [b] := by
            match ds, c2 with
            | [b], _ => exact ⟨b, rfl⟩
          cases qs with
          | @cons v2 _ vs1 _ t2 qs =>
          cases qs
          have a1 : atI [V.str w0, v2] 1 = some v2 := atI_in (j := 1) rfl rfl
          have wb : isWishB x (.tuple [.str w0, dd]) = nameD dd := by
            show (decide (Str.ofString "open" = w0) && nameD dd) = _
            rw [decide_eq_true co, Bool.true_and]
          refine ⟨.ref u, rfl, ix s2 a1 ((t2.same s2).isT (.inr (.inr (.inr rfl))) ⟨_, truBo, ?_⟩)⟩
          cases h3 : isTy "str" dd with
          | false =>
            refine iteF ⟨_, rfl, rfl, by decide +kernel, ?_⟩
            rw [emp, wb]
            cases dd <;> first | rfl | cases h3
          | true =>
            obtain ⟨z, rfl, rfl⟩ : ∃ s, dd = .str s ∧ v2 = .str s := by
              cases t2 with
              | @str s h => exact ⟨s, rfl, rfl⟩
              | non => cases h3
              | bl b => cases b <;> cases h3
              | int i => simp [isTy, tyName] at h3
              | tup _ _ => simp [isTy, tyName] at h3
              | lst _ _ _ => simp [isTy, tyName] at h3
              | dct _ _ => simp [isTy, tyName] at h3
            exact iteT ⟨.ref u, rfl, ix s2 a1 ⟨z, rfl, rfl, sh z (by simp), wb⟩⟩
        rintro σ3 G3 ⟨wd, rfl, rfl, wdl, wde⟩
        rw [wde] at q
        have zs : wd.length ≤ sizeLine := by rw [sizeLine_eq]; omega
        refine ⟨.str wd, rfl, zs, _, _, rfl, rfl, _, rfl, ?_⟩
        by_cases h0 : (0 : Int) < (wd.length : Int)
        rotate_left
        · rw [show decide ((0 : Int) < (wd.length : Int)) = false from decide_eq_false h0]
          refine iteF ⟨_, truBo, iteF ?_⟩
          have := q _ s2
          rw [decide_eq_false (fun n => by have := (name_len n).1; omega)] at this
          exact this
        rw [show decide ((0 : Int) < (wd.length : Int)) = true from decide_eq_true h0]
        refine iteT ⟨_, _, rfl, rfl, _, truBo, ?_⟩
        by_cases h9 : (wd.length : Int) < 9
        rotate_left
        · rw [show decide ((wd.length : Int) < 9) = false from decide_eq_false h9]
          refine iteF ?_
          have := q _ s2
          rw [decide_eq_false (fun n => by have := (name_len n).2; omega)] at this
          show Q (.bl (decide ((wd.length : Int) < 9))) G3
          rw [show decide ((wd.length : Int) < 9) = false from decide_eq_false h9]
          exact this
        rw [show decide ((wd.length : Int) < 9) = true from decide_eq_true h9]
        rw [name_dec (by omega) (by omega)] at q
        refine iteT ⟨.str wd, rfl, wd, rfl, fun D nD => ?_⟩
        have l0 : wd.cps.size = wd.length := rfl
        refine lc_it (walk_str (z := wd)) (fun i Z => Same G3 Z ∧ ∃ xs : List V, Z D = some (.lst xs) ∧ xs.length ≤ i ∧ (xs.length == 0) = ((wd.cps.toList.take i).map fun c => decide (c ∈ LET.cps.toList)).all id) ⟨same_new nD, [], upd_same, Nat.le_refl _, rfl⟩ (fun i Z _ pv => trivial) (fun i y Z Z' hi pv hy => ?_) (fun Z pv => ?_)
        · obtain ⟨sZ, xs, z1, z2, z3⟩ := pv
          obtain ⟨rfl, ch, hc, rfl⟩ := hy
          have hc' : wd.cps.toList[i]? = some ch := by rw [Array.getElem?_toList]; exact hc
          refine ⟨rfl, .str ⟨#[ch]⟩, by kernel_rfl, ch, LET, rfl, rfl, _, rfl, ?_⟩
          rw [take_snoc hc', List.map_append, List.all_append]
          by_cases hm : ch ∈ LET.cps.toList
          · rw [decide_eq_true hm]
            refine iteF ⟨sZ, xs, z1, by omega, ?_⟩
            rw [z3, List.map_cons, decide_eq_true hm]
            simp
          · rw [decide_eq_false hm]
            refine iteT ⟨.str ⟨#[ch]⟩, by kernel_rfl, _, z1, by rw [sizeLine_eq]; omega, same_mut sZ nD, xs ++ [_], upd_same, by rw [List.length_append]; show xs.length + 1 ≤ _; omega, ?_⟩
            rw [List.map_cons, decide_eq_false hm, List.length_append]
            show (xs.length + 1 == 0) = _
            simp
        obtain ⟨sZ, xs, z1, z2, z3⟩ := pv
        have e : wd.cps.toList.take wd.cps.size = wd.cps.toList := List.take_of_length_le (by simp)
        rw [e] at z3
        refine ⟨by show 0 ≤ sizeLine; decide, fun l0 n0 => ?_⟩
        have k0 := same_new n0 (o := .lst [])
        refine ⟨D, l0, xs, rfl, rfl, .inl (.inl (k0 _ _ z1)), .inl (.inl upd_same), ?_⟩
        rw [z3]
        exact q _ ((s2.trans sZ).trans k0)
      rw [decide_eq_false co]
      refine iteF ?_
      refine ⟨.ref u, rfl, .inl ⟨_, .inr (f.same s2).sqT, neL ⟨_, rfl, ?_⟩⟩⟩
      by_cases c3 : (.str w0 :: ds : List PyData).length = 3
      rotate_left
      · rw [show (!decide (((V.str w0 :: vs).length : Int) = 3)) = true from by rw [decide_eq_false (by omega)]; rfl]
        refine iteT (no s2 ?_)
        match ds, c3 with
        | [], _ => rfl
        | [b], _ => show (decide (Str.ofString "open" = w0) && nameD b) = false; rw [decide_eq_false co, Bool.false_and]
        | [a, b], c => exact absurd rfl c
        | _ :: _ :: _ :: _, _ => rfl
      rw [show (!decide (((V.str w0 :: vs).length : Int) = 3)) = false from by rw [decide_eq_true (by omega)]; rfl]
      refine iteF ?_
      obtain ⟨da, db, rfl⟩ : ∃ a b, ds = [a, b] := by
        match ds, c3 with
        | [a, b], _ => exact ⟨a, b, rfl⟩
      cases qs with
      | @cons v2 _ vs1 _ t2 qs =>
      cases qs with
      | @cons v3 _ vs2 _ t3 qs =>
      cases qs
      have a1 : atI [V.str w0, v2, v3] 1 = some v2 := atI_in (j := 1) rfl rfl
      have a2 : atI [V.str w0, v2, v3] 2 = some v3 := atI_in (j := 2) rfl rfl
      have q : ∀ H', Same H H' → Q (.bl (wish2B x (.str w0) da db)) H' := q
      refine ⟨.ref u, rfl, ix s2 a0 (eqS ⟨_, rfl, ?_⟩)⟩
      by_cases cb : Str.ofString "bears" = w0
      · rw [decide_eq_true cb]
        subst cb
        have q : ∀ H', Same H H' → Q (.bl (x.rooms.any (isS da) && bearB db)) H' := q
        refine iteT ⟨.ref u, rfl, ix s2 a1 ⟨.ref h, rfl, h, .ref rA, rfl, DGet.k (k := .inr "rooms") (s2 _ _ e1), rA, x.rooms, _, rfl, .inl (.inl (.inl (s2 _ _ e7))), (t2.same s2).hit, ?_⟩⟩
        rw [if_neg Bool.false_ne_true]
        refine ⟨_, truBo, ?_⟩
        cases c2 : x.rooms.any (isS da) with
        | false =>
          rw [c2, Bool.false_and] at q
          exact iteF (q _ s2)
        | true =>
          rw [c2, Bool.true_and] at q
          exact iteT ⟨.ref u, rfl, ix s2 a2 ⟨N2, v3, db, rfl, t3.same s2, q _ s2⟩⟩
      rw [decide_eq_false cb]
      refine iteF ?_
      -- the sorts
      refine ⟨fun σ Z => ∃ kd l1 l2 l3 : Addr, σ = [some (.ref h), some (.ref u), some (.ref fl), some (.ref sl), none, some (.ref kd), none, none] ∧ Same G2 Z ∧ Z kd = some (.dK [(.inr (Str.ofString "at"), .ref l1), (.inr (Str.ofString "lies"), .ref l2), (.inr (Str.ofString "held"), .ref l3)]) ∧ Z l1 = some (.lst [.ref fl, .ref rA]) ∧ Z l2 = some (.lst [.ref sl, .ref rA]) ∧ Z l3 = some (.lst [.ref sl, .ref fl]), ?_, ?_⟩
      · refine fun kd nkd => ?_
        have k1 := same_new nkd (o := .dK [])
        have e0 : (upd G2 kd (.dK [])) kd = some (.dK []) := upd_same
        have b0 : Kp kd G2 (upd G2 kd (.dK [])) := fun a o ne e => by rw [upd_ne ne]; exact e
        generalize upd G2 kd (.dK []) = A1 at k1 e0 b0
        refine ⟨.ref fl, rfl, .ref h, rfl, h, .ref rA, rfl, DGet.k (k := .inr "rooms") (k1 _ _ (s2 _ _ e1)), by show 2 ≤ sizeLine; decide, fun l1 m1 => ?_⟩
        have c1 := same_new m1 (o := .lst [.ref fl, .ref rA])
        have g1 : (upd A1 l1 (.lst [.ref fl, .ref rA])) l1 = some (.lst [.ref fl, .ref rA]) := upd_same
        generalize upd A1 l1 (.lst [.ref fl, .ref rA]) = A2 at c1 g1
        refine ⟨.ref sl, rfl, .ref h, rfl, h, .ref rA, rfl, DGet.k (k := .inr "rooms") (c1 _ _ (k1 _ _ (s2 _ _ e1))), by show 2 ≤ sizeLine; decide, fun l2 m2 => ?_⟩
        have c2' := same_new m2 (o := .lst [.ref sl, .ref rA])
        have g2 : (upd A2 l2 (.lst [.ref sl, .ref rA])) l2 = some (.lst [.ref sl, .ref rA]) := upd_same
        generalize upd A2 l2 (.lst [.ref sl, .ref rA]) = A3 at c2' g2
        refine ⟨.ref sl, rfl, .ref fl, rfl, by show 2 ≤ sizeLine; decide, fun l3 m3 => ?_⟩
        have c3' := same_new m3 (o := .lst [.ref sl, .ref fl])
        have g3 : (upd A3 l3 (.lst [.ref sl, .ref fl])) l3 = some (.lst [.ref sl, .ref fl]) := upd_same
        generalize upd A3 l3 (.lst [.ref sl, .ref fl]) = A4 at c3' g3
        have cA := (c1.trans c2').trans c3'
        have e4' := cA _ _ e0
        have d1 : ∀ {b : Addr} {xs : List V}, A4 b = some (.lst xs) → b ≠ kd := fun {b xs} e z => by rw [z, e4'] at e; cases e
        refine ⟨e4', [(.inr (Str.ofString "at"), .ref l1), (.inr (Str.ofString "lies"), .ref l2), (.inr (Str.ofString "held"), .ref l3)], rfl, (show 3 ≤ 15 by decide), ?_⟩
        refine ⟨kd, l1, l2, l3, rfl, fun a o e => ?_, upd_same, ?_, ?_, ?_⟩
        · rw [upd_ne (ne_of_none e nkd)]
          exact cA _ _ (k1 _ _ e)
        · have := (c2'.trans c3') _ _ g1
          rw [upd_ne (d1 this)]
          exact this
        · have := c3' _ _ g2
          rw [upd_ne (d1 this)]
          exact this
        · rw [upd_ne (d1 g3)]
          exact g3
      rintro σ3 G3 ⟨kd, l1, l2, l3, rfl, s3, ek, g1, g2, g3⟩
      have s23 := s2.trans s3
      -- the pair
      refine ⟨fun σ Z => ∃ (pr A B : Addr) (na nb : List Str), σ = [some (.ref h), some (.ref u), some (.ref fl), some (.ref sl), none, some (.ref kd), some (.ref pr), none] ∧ Same G3 Z ∧ Z pr = some (.lst [.ref A, .ref B]) ∧ Z A = some (.lst (na.map V.str)) ∧ Z B = some (.lst (nb.map V.str)) ∧ wish2B x (.str w0) da db = (na.any (isS da) && nb.any (isS db)), ?_, ?_⟩
      · refine ⟨.ref kd, rfl, kd, rfl, .inl ⟨_, .inl ek⟩, .ref u, rfl, ix s23 a0 ⟨by show 0 ≤ sizeLine; decide, fun p1 m1 => ?_⟩⟩
        have c1 := same_new m1 (o := .lst [])
        have h1' : (upd G3 p1 (.lst [])) p1 = some (.lst []) := upd_same
        generalize upd G3 p1 (.lst []) = A1 at c1 h1'
        refine ⟨by show 0 ≤ sizeLine; decide, fun p2 m2 => ?_⟩
        have c2' := same_new m2 (o := .lst [])
        have h2' : (upd A1 p2 (.lst [])) p2 = some (.lst []) := upd_same
        generalize upd A1 p2 (.lst []) = A2 at c2' h2'
        refine ⟨by show 2 ≤ sizeLine; decide, fun p3 m3 => ?_⟩
        have c3' := same_new m3 (o := .lst [.ref p1, .ref p2])
        have h3' : (upd A2 p3 (.lst [.ref p1, .ref p2])) p3 = some (.lst [.ref p1, .ref p2]) := upd_same
        generalize upd A2 p3 (.lst [.ref p1, .ref p2]) = A3 at c3' h3'
        have cA := (c1.trans c2').trans c3'
        refine ⟨_, DGet.k (k := .inr w0) (cA _ _ ek), ?_⟩
        have er := cA _ _ (s23 _ _ e7)
        have ef' := cA _ _ (s3 _ _ ef)
        have es' := cA _ _ (s3 _ _ es)
        by_cases w1 : Str.ofString "at" = w0
        · subst w1
          exact ⟨l1, fl, rA, _, _, rfl, cA, cA _ _ g1, ef', er, rfl⟩
        by_cases w2 : Str.ofString "lies" = w0
        · subst w2
          exact ⟨l2, sl, rA, _, _, rfl, cA, cA _ _ g2, es', er, rfl⟩
        by_cases w3 : Str.ofString "held" = w0
        · subst w3
          exact ⟨l3, sl, fl, _, _, rfl, cA, cA _ _ g3, es', ef', rfl⟩
        have vn : valV [((.inr (Str.ofString "at") : Key), V.ref l1), (.inr (Str.ofString "lies"), .ref l2), (.inr (Str.ofString "held"), .ref l3)] (.inr w0) = none := by
          have n1 : ∀ {s : Str}, ¬ s = w0 → decide ((Sum.inr s : Key) = .inr w0) = false := fun n => decide_eq_false fun e => n (by injection e)
          unfold valV
          rw [List.find?_cons, n1 w1, List.find?_cons, n1 w2, List.find?_cons, n1 w3]
          rfl
        rw [vn]
        refine ⟨p3, p1, p2, [], [], rfl, cA, h3', (c2'.trans c3') _ _ h1', c3' _ _ h2', ?_⟩
        unfold wish2B
        show (if decide (Str.ofString "at" = w0) = true then _ else if decide (Str.ofString "lies" = w0) = true then _ else if decide (Str.ofString "held" = w0) = true then _ else if decide (Str.ofString "bears" = w0) = true then _ else false) = _
        rw [decide_eq_false w1, decide_eq_false w2, decide_eq_false w3, decide_eq_false cb]
        rfl
      rintro σ4 G4 ⟨pr, A, B, na, nb, rfl, s4, ep, eA, eB, we⟩
      rw [we] at q
      have s24 := s23.trans s4
      refine ⟨.ref u, rfl, ix s24 a1 ⟨.ref pr, rfl, .inl ⟨pr, _, _, _, rfl, rfl, .inl (.inl ep), atI_in (j := 0) rfl rfl, A, na, _, rfl, .inl (.inl (.inl eA)), (t2.same s24).hit, ?_⟩⟩⟩
      rw [if_neg Bool.false_ne_true]
      refine ⟨_, truBo, ?_⟩
      cases c2 : na.any (isS da) with
      | false =>
        rw [c2, Bool.false_and] at q
        exact iteF (q _ s24)
      | true =>
        rw [c2, Bool.true_and] at q
        refine iteT ⟨.ref u, rfl, ix s24 a2 ⟨.ref pr, rfl, .inl ⟨pr, _, _, _, rfl, rfl, .inl (.inl ep), atI_in (j := 1) rfl rfl, B, nb, _, rfl, .inl (.inl (.inl eB)), (t3.same s24).hit, ?_⟩⟩⟩
        rw [if_neg Bool.false_ne_true]
        exact q _ s24
    | _ => cases h1
end
end Wd

set_option Elab.async false
set_option linter.all false
set_option maxRecDepth 100000
set_option maxHeartbeats 4000000
namespace Wd
open PySem PySem.Spec PyProof.Rows L2
abbrev s__law_due : Stmt := topS 33
theorem sc__law_due : FnScope ["hall", "thing", "at"] ["hall", "thing"] (C8.fnScope s__law_due) := ⟨rfl, rfl, rfl, by decide +kernel, rfl, by decide +kernel, by decide +kernel⟩
abbrev s__law_all_names : Stmt := topS 31
theorem sc__law_all_names : FnScope ["hall", "found", "one"] ["hall"] (C8.fnScope s__law_all_names) := ⟨rfl, rfl, rfl, by decide +kernel, rfl, by decide +kernel, by decide +kernel⟩
section
variable {P : Program} {w : World} {K : PySem.W.Frag} {mg : Str → Option Value} {base : Heap}
def dueV (x : HallH) (d : PyData) : List V := (needB x d).toList.map atV
def spDue (K : PySem.W.Frag) : Sp := fun vs H Q _ => ∃ (N N2 : Addr → Prop) (h : Addr) (v : V) (d : PyData) (sr sd ss sw : Nat) (x : HallH), vs = [.ref h, v] ∧ HallAt N K H h x ∧ HallOk sr sd ss sw x ∧ sr ≤ 60 ∧ ss ≤ 60 ∧ sw ≤ 60 ∧ Th N2 H v d ∧ (∀ z ∈ partsD d, ShortD z) ∧ ∀ l H', Same H H' → H l = none → H' l = some (.lst (dueV x d)) → Q (.ref l) H'
theorem c_due {c : CA} (T : Txt P w K mg base c) (c_law_is_wish : C8.Cal P w K mg base 2 "_law_is_wish" (spLIsWish K) []) {f : Addr} {fd : FuncData} (F : C8.Def K mg "_law_due" s__law_due f fd) (b : Binds K fd ["hall", "thing"] []) : C8.Cal P w K mg base 3 "_law_due" (spDue K) [] := by
  refine C8.cal0 F b .nil sc__law_due (fun vs H Q E h => ?_) (fun cdv A outer s H vs Q E hr h => ?_)
  · obtain ⟨N, N2, h, v, d, sr, sd, ss, sw, x, rfl, _⟩ := h
    rfl
  · obtain ⟨N, N2, h, v, d, sr, sd, ss, sw, x, rfl, ha, ok, b1, b3, b4, th, sh, q⟩ := h
    have hu := hu_of hr
    have hu6 := hu64 hr
    refine ⟨_, (pss_cons (ps_if (PW.pt (pw_or (pt_not (pt_truK (K := K) (pe_callB (call_isAny) (by rfl) T.b_isinstance bt_isinstance (pa_cons (pv 1) (pa_cons (pe_bltn (v := .ty "tuple") (by rfl) T.b_tuple (by decide +kernel) rfl) pa_nil))) (fun _ => rfl))) (pw_or1 (pt_cmpR (op_gt) (pe_callB (call_lenG (K := K)) (by rfl) T.b_len bt_len (pa_cons (pv 1) pa_nil)) pe_int (nomark _))))) (pss_one (ps_ret (pe_lst (pa_cons pe_non pa_nil)))) pss_nil)
  (pss_one (ps_ret (pe_slice (sl_any (K := K)) (pe_lc (own := [("at", 2)]) rfl sc__law_due.nd (pi_range1 rfl T.b_range (pa_cons (pe_callB (call_lenG (K := K)) (by rfl) T.b_len bt_len (pa_cons (pv 1) pa_nil)) pa_nil)) (blkOk_by (by kernel_rfl)) (fun _ _ _ _ _ => (pg_name (i := 2) sc__law_due.nd rfl (.inl rfl))) (fun _ _ _ _ _ => (pts_one (pt_not (pt_truK (K := K) (C8.pe_c c_law_is_wish hr (by decide) (by rfl) (pa_cons (pv 0) (pa_cons (pe_ix (ixG (K := K)) (pv 1) (pv 2) (fun _ _ => rfl)) pa_nil))) (fun _ => rfl)))))
      (fun _ _ _ _ _ => (pv 2))) po_none (po_some pe_int))))), ?_⟩
    have sm : ∀ (l : Addr), H l = none → needB x d = some none → Q (.ref l) (upd H l (.lst [.non])) := fun l nl e => q l _ (same_new nl) nl (by rw [upd_same]; unfold dueV; rw [e]; rfl)
    refine ⟨v, rfl, th.isT (.inl rfl) ⟨_, truBo, ?_⟩⟩
    cases h1 : isTy "tuple" d with
    | false =>
      have e : needB x d = some none := by cases d <;> first | rfl | cases h1
      exact iteT ⟨by show 1 ≤ sizeLine; decide, fun l nl => sm l nl e⟩
    | true =>
    refine iteF ?_
    cases th with
    | @tup u vs ds f qs =>
      have ll := qs.length
      refine ⟨.ref u, rfl, .inl ⟨_, .inr f.sqT, _, _, rfl, rfl, _, rfl, ?_⟩⟩
      by_cases c8 : 8 < ds.length
      · rw [show decide ((8 : Int) < (vs.length : Int)) = true from decide_eq_true (by omega)]
        exact iteT ⟨by show 1 ≤ sizeLine; decide, fun l nl => sm l nl (show (if 8 < ds.length then some none else (ds.findIdx? fun d => !isWishB x d).map some) = _ from by rw [if_pos c8])⟩
      rw [show decide ((8 : Int) < (vs.length : Int)) = false from decide_eq_false (by omega)]
      refine iteF ?_
      have en : needB x (.tuple ds) = (ds.findIdx? fun d => !isWishB x d).map some := (show (if 8 < ds.length then some none else (ds.findIdx? fun d => !isWishB x d).map some) = _ from by rw [if_neg c8])
      refine ⟨.ref u, rfl, .inl ⟨_, .inr f.sqT, _, rfl, by omega, by omega, fun D nD => ?_⟩⟩
      rw [Int.toNat_natCast]
      refine lc_range (fun i G => Same H G ∧ ∃ xs : List V, G D = some (.lst xs) ∧ xs.length ≤ i ∧ xs.take 1 = ((ds.take i).findIdx? fun d => !isWishB x d).toList.map fun k => V.int (k : Nat)) ⟨same_new nD, [], upd_same, Nat.le_refl _, rfl⟩ (fun i G hi pv => ?_) (fun G pv => ?_)
      · obtain ⟨sG, xs, y1, y2, y3⟩ := pv
        have hv : vs[i]? = some vs[i] := List.getElem?_eq_getElem hi
        generalize vs[i] = yv at hv
        obtain ⟨dk, hdk, tk⟩ := (qs.same sG).at hv
        refine ⟨rfl, .ref h, rfl, .ref u, rfl, .int (0 + i), rfl, .inr (.inl ⟨u, _, _, _, rfl, rfl, (f.same sG).sqT, atI_in (j := i) (by omega) hv, N, N2, h, yv, dk, sr, sd, ss, sw, x, rfl, HallAt.move (fun _ z => z) (fun b o _ e => sG b o e) ha, ok, b1, b3, b4, tk, sh dk (List.mem_of_getElem? hdk), fun G2 s2 => ⟨_, truBo, ?_⟩⟩)⟩
        have y1 := s2 _ _ y1
        have sG := sG.trans s2
        have il : (ds.take i).length = i := by
          rw [List.length_take]
          have := (List.getElem?_eq_some_iff.mp hdk).1
          omega
        rw [take_snoc hdk, List.findIdx?_append, il]
        cases hb : isWishB x dk with
        | true =>
          refine iteF ⟨sG, xs, y1, by omega, ?_⟩
          rw [y3]
          simp [hb]
        | false =>
          refine iteT ⟨.int (0 + i), rfl, _, y1, by rw [sizeLine_eq]; omega, same_mut sG nD, xs ++ [.int (0 + i)], upd_same, by rw [List.length_append]; show xs.length + 1 ≤ _; omega, ?_⟩
          cases ho : (ds.take i).findIdx? fun d => !isWishB x d with
          | none =>
            rw [ho] at y3
            have : xs = [] := by
              cases xs with
              | nil => rfl
              | cons a b => cases y3
            subst this
            simp [hb]
          | some k =>
            rw [ho] at y3
            cases xs with
            | nil => cases y3
            | cons a b =>
              show [a] = _
              have e : [a] = [V.int (k : Nat)] := y3
              rw [e]
              rfl
      obtain ⟨sG, xs, y1, y2, y3⟩ := pv
      refine ⟨_, rfl, .inl ⟨D, xs, rfl, .inl (.inl y1), fun l nl => ?_⟩⟩
      refine q l _ (sG.trans (same_new nl)) (sG.free nl) ?_
      rw [upd_same, cutV_to (by decide)]
      show some (HO.lst (xs.take 1)) = _
      rw [y3, ll, List.take_length]
      unfold dueV
      rw [en]
      cases (ds.findIdx? fun d => !isWishB x d) <;> rfl
    | _ => cases h1
def allN (x : HallH) : List Str := x.rooms ++ x.doors.map DoorH.name ++ x.stones.map Prod.fst ++ x.walkers.map WalkH.name
def spAllN (K : PySem.W.Frag) : Sp := fun vs H Q _ => ∃ (N : Addr → Prop) (h : Addr) (sr sd ss sw : Nat) (x : HallH), vs = [.ref h] ∧ HallAt N K H h x ∧ HallOk sr sd ss sw x ∧ sr ≤ 60 ∧ sd ≤ 60 ∧ ss ≤ 60 ∧ sw ≤ 60 ∧ ∀ l H', Same H H' → H l = none → H' l = some (.lst ((allN x).map V.str)) → Q (.ref l) H'
theorem c_allN {c : CA} (T : Txt P w K mg base c) {f : Addr} {fd : FuncData} (F : C8.Def K mg "_law_all_names" s__law_all_names f fd) (b : Binds K fd ["hall"] []) : C8.Cal P w K mg base 1 "_law_all_names" (spAllN K) [] := by
  refine C8.cal0 F b .nil sc__law_all_names (fun vs H Q E h => ?_) (fun cdv A outer s H vs Q E hr h => ?_)
  · obtain ⟨N, h, sr, sd, ss, sw, x, rfl, _⟩ := h
    rfl
  · obtain ⟨N, h, sr, sd, ss, sw, x, rfl, ha, ok, b1, b2, b3, b4, q⟩ := h
    have hu := hu_of hr
    have hu6 := hu64 hr
    refine ⟨_, (C8.pss_cut (ps_set (i := 1) sc__law_all_names.nd rfl (.inl rfl) (pe_op (op_addG (K := K)) (pe_op (op_addG (K := K)) (pe_dget hu (pv 0) pe_str (fun _ _ => rfl)) (pe_callB (call_sortedD rfl) (by rfl) T.b_sorted bt_sorted (pa_cons (pe_dget hu (pv 0) pe_str (fun _ _ => rfl)) pa_nil))) (pe_callB (call_sortedD rfl) (by rfl) T.b_sorted bt_sorted (pa_cons (pe_dget hu (pv 0) pe_str (fun _ _ => rfl)) pa_nil))))
  (pss_one (ps_ret (pe_op (op_addG (K := K)) (pv 1) (pe_lc (own := [("one", 2)]) rfl sc__law_all_names.nd (pi_listK (K := K) (pe_dget hu (pv 0) pe_str (fun _ _ => rfl))) (blkOk_by (by kernel_rfl)) (fun _ _ _ _ _ => (pg_name (i := 2) sc__law_all_names.nd rfl (.inl rfl))) (fun _ _ _ _ _ => pts_nil)
      (fun _ _ _ _ _ => (pe_ix (ixG (K := K)) (pv 2) pe_int (fun _ _ => rfl)))))))), ?_⟩
    obtain ⟨dA, st, wl, rA, dkv, wvs, n1, n2, n3, n4, n5, e1, e2, e3, e4, e5, e6, e7⟩ := id ha
    have wl2 : x.walkers.length ≤ 60 := Nat.le_trans ok.w2 b4
    have sl2 : x.stones.length ≤ 60 := Nat.le_trans ok.s2 b3
    have rl2 : x.rooms.length ≤ 60 := Nat.le_trans ok.r2 b1
    have dl2 : x.doors.length ≤ 60 := Nat.le_trans ok.d2 b2
    have wvl : wvs.length = x.walkers.length := by rw [e6.length, List.length_map]
    refine ⟨fun σ Z => ∃ fo : Addr, σ = [some (.ref h), some (.ref fo), none] ∧ Same H Z ∧ Z fo = some (.lst ((x.rooms ++ x.doors.map DoorH.name ++ x.stones.map Prod.fst).map V.str)), ?_, ?_⟩
    · refine ⟨.ref h, rfl, h, .ref rA, rfl, DGet.k (k := .inr "rooms") e1, .ref h, rfl, h, .ref dA, rfl, DGet.k (k := .inr "doors") e1, dA, _, _, rfl, .inl e2, (show dkv.map (fun z => z.1) = (x.doors.map DoorH.name).map Sum.inr from by rw [List.map_map]; exact doorsKv_keys e3), by rw [List.length_map]; omega, fun ys p2 yp ysort np2 => ?_⟩
      have ey : ys = x.doors.map DoorH.name := sort_texts ysort ok.d3 yp
      subst ey
      have k2 := same_new np2 (o := .lst ((x.doors.map DoorH.name).map V.str))
      have g2 : (upd H p2 (.lst ((x.doors.map DoorH.name).map V.str))) p2 = some (.lst ((x.doors.map DoorH.name).map V.str)) := upd_same
      generalize upd H p2 (.lst ((x.doors.map DoorH.name).map V.str)) = Z1 at k2 g2
      refine .inl ⟨rA, p2, _, _, rfl, rfl, k2 _ _ e7, g2, by rw [List.length_map, List.length_map, List.length_map, sizeLine_eq]; omega, fun p3 np3 => ?_⟩
      rw [← List.map_append]
      have k3 := k2.trans (same_new np3 (o := .lst ((x.rooms ++ x.doors.map DoorH.name).map V.str)))
      have g3 : (upd Z1 p3 (.lst ((x.rooms ++ x.doors.map DoorH.name).map V.str))) p3 = some (.lst ((x.rooms ++ x.doors.map DoorH.name).map V.str)) := upd_same
      generalize upd Z1 p3 (.lst ((x.rooms ++ x.doors.map DoorH.name).map V.str)) = Z2 at k3 g3
      refine ⟨.ref h, rfl, h, .ref st, rfl, DGet.k (k := .inr "stones") (k3 _ _ e1), st, _, _, rfl, .inl (k3 _ _ e4), stonesKv_keys _, by rw [List.length_map]; omega, fun ys p4 yp ysort np4 => ?_⟩
      have ey : ys = x.stones.map Prod.fst := sort_texts ysort ok.s3 yp
      subst ey
      have k4 := same_new np4 (o := .lst ((x.stones.map Prod.fst).map V.str))
      refine .inl ⟨p3, p4, _, _, rfl, rfl, k4 _ _ g3, upd_same, by rw [List.length_map, List.length_map, List.length_append, List.length_map, List.length_map, sizeLine_eq]; omega, fun p5 np5 => ?_⟩
      exact ⟨p5, rfl, (k3.trans k4).trans (same_new np5), by rw [upd_same, ← List.map_append]⟩
    rintro σ1 G1 ⟨fo, rfl, s1, ef⟩
    refine ⟨.ref fo, rfl, .ref h, rfl, h, .ref wl, rfl, DGet.k (k := .inr "walkers") (s1 _ _ e1), wl, rfl, ⟨_, .inl (.inl (s1 _ _ e5))⟩, fun D nD => ?_⟩
    refine lc_it (walk_list (a := wl) (xs := wvs)) (fun i Z => Same G1 Z ∧ Z D = some (.lst (((x.walkers.take i).map WalkH.name).map V.str))) ⟨same_new nD, upd_same⟩ (fun i Z _ pv => .inl (.inl (pv.1 _ _ (s1 _ _ e5)))) (fun i y Z Z' hi pv hy => ?_) (fun Z pv => ?_)
    · obtain ⟨rfl, hv⟩ := hy
      obtain ⟨sZ, z1⟩ := pv
      obtain ⟨dd, hdd, dqv⟩ := e6.get hv
      rw [List.getElem?_map] at hdd
      obtain ⟨z, hz, rfl⟩ := Option.map_eq_some_iff.mp hdd
      obtain ⟨t, rfl, nt, et⟩ := walk_inv dqv
      rw [take_snoc hz, List.map_append, List.map_append]
      exact ⟨rfl, yes_if ⟨.ref t, by kernel_rfl, .inr (.inl ⟨t, _, 0, _, rfl, rfl, same_sqT (s1.trans sZ) et, rfl, _, z1, by rw [List.length_map, List.length_map, List.length_take, sizeLine_eq]; omega, same_mut sZ nD, upd_same⟩)⟩⟩
    · obtain ⟨sZ, z1⟩ := pv
      rw [wvl, List.take_length] at z1
      refine .inl ⟨fo, D, _, _, rfl, rfl, sZ _ _ ef, z1, by rw [List.length_map, List.length_map, List.length_map, List.length_append, List.length_append, List.length_map, List.length_map, sizeLine_eq]; omega, fun l nl => ?_⟩
      exact q l _ ((s1.trans sZ).trans (same_new nl)) ((s1.trans sZ).free nl) (by rw [upd_same, ← List.map_append]; rfl)
end
end Wd

set_option Elab.async false
set_option linter.all false
set_option maxRecDepth 100000
set_option maxHeartbeats 4000000
namespace Wd
open PySem PySem.Spec PyProof.Rows L2
section
variable {P : Program} {w : World} {K : PySem.W.Frag} {mg : Str → Option Value} {base : Heap}
theorem atI_end {xs : List V} {k : Nat} {v : V} (l : xs.length = k + 1) (h : xs[k]? = some v) : atI xs (-1) = some v := by
  unfold atI ixN
  rw [if_neg (by omega), if_pos (by rw [l]; omega)]
  have e : ((-1 : Int) + (xs.length : Int)).toNat = k := by rw [l]; omega
  show (some ((-1 : Int) + (xs.length : Int)).toNat).bind _ = _
  rw [e]
  exact h
theorem Th.kp {N : Addr → Prop} {H H' : Hp} {p : Addr} {v : V} {d : PyData} {qc : Addr × List Int} {n : Nat} (h : Th N H v d) (pen : Pen K H p qc n) (np : ∀ a, N a → a ≠ p) (k : Kp p H H') : Th N H' v d := by
  obtain ⟨t, r, e, _⟩ := pen
  refine h.move (fun _ z => z) (fun a xs ⟨o, ea, no⟩ => ⟨o, k _ _ (fun z => ?_) ea, no⟩) (fun a o n e => k a o (np a n) e)
  rw [z, e] at ea
  cases ea
theorem cons_tp {r : R2} {ta tb : TE} {rest : TA} {σ : L2.St} {H : Hp} {Q : List V → Hp → Prop} (h : tOp r ta tb σ H fun x H1 => rest σ H1 fun xs H2 => Q (x :: xs) H2) : tCons (tOp r ta tb) rest σ H Q := h
theorem cons_tp2 {r : R2} {ta tb : TE} {rest : TA} {g : TG} {D : Ends} {σ : L2.St} {H : Hp} (h : tOp r ta tb σ H fun x H1 => rest σ H1 fun xs H2 => tLst (fun _ _ q => q (x :: xs) H2) σ H2 fun v H3 => g v σ H3 D.nx) : tAsg (tLst (tCons (tOp r ta tb) rest)) g D σ H := h
theorem ret_tp {r : R2} {ta tb : TE} {D : Ends} {σ : L2.St} {H : Hp} (h : tOp r ta tb σ H D.rt) : tRet (tOp r ta tb) D σ H := h
/-- a tuple of things -/
def Tp (N : Addr → Prop) (H : Hp) (u : Addr) (ds : List PyData) : Prop := ∃ vs, FT H u vs ∧ ThAll N H vs ds
theorem Tp.th {N : Addr → Prop} {H : Hp} {u : Addr} {ds : List PyData} (h : Tp N H u ds) : Th N H (.ref u) (.tuple ds) := by
  obtain ⟨vs, f, q⟩ := h
  exact .tup f q
theorem Tp.of {N : Addr → Prop} {H : Hp} {u : Addr} {ds : List PyData} (h : Th N H (.ref u) (.tuple ds)) : Tp N H u ds := by
  cases h with
  | tup f q => exact ⟨_, f, q⟩
theorem Tp.same {N : Addr → Prop} {H H' : Hp} {u : Addr} {ds : List PyData} (h : Tp N H u ds) (s : Same H H') : Tp N H' u ds := .of (h.th.same s)
theorem Tp.kp {N : Addr → Prop} {H H' : Hp} {p u : Addr} {ds : List PyData} {qc : Addr × List Int} {n : Nat} (h : Tp N H u ds) (pen : Pen K H p qc n) (np : ∀ a, N a → a ≠ p) (k : Kp p H H') : Tp N H' u ds := .of (Th.kp h.th pen np k)
theorem Th.wider {N N' : Addr → Prop} {H : Hp} {v : V} {d : PyData} (h : Th N H v d) (n : ∀ a, N a → N' a) : Th N' H v d := h.move n (fun _ _ e => e) fun _ _ _ e => e
theorem Tp.wider {N N' : Addr → Prop} {H : Hp} {u : Addr} {ds : List PyData} (h : Tp N H u ds) (n : ∀ a, N a → N' a) : Tp N' H u ds := .of (h.th.wider n)
theorem tpSl {N : Addr → Prop} {H : Hp} {Q : VK} {u : Addr} {ds es : List PyData} {lo hi : Option Int} (e : Tp N H u ds) (c : ∀ vs, ThAll N H vs ds → ThAll N H (cutV vs lo hi) es) (q : ∀ b H', Same H H' → Tp N H' b es → Q (.ref b) H') : rSlF K (.ref u) lo hi H Q := by
  obtain ⟨vs, f, t⟩ := e
  exact slF f fun b H' s fb => q b H' s ⟨_, fb, (c vs t).same s⟩
theorem tpTo {N : Addr → Prop} {H : Hp} {Q : VK} {u : Addr} {ds : List PyData} {k : Nat} (e : Tp N H u ds) (q : ∀ b H', Same H H' → Tp N H' b (ds.take k) → Q (.ref b) H') : rSlF K (.ref u) none (some (k : Int)) H Q :=
  tpSl e (fun vs t => by rw [cut_to]; exact t.take k) q
theorem tpFrom {N : Addr → Prop} {H : Hp} {Q : VK} {u : Addr} {ds : List PyData} {k : Nat} (e : Tp N H u ds) (q : ∀ b H', Same H H' → Tp N H' b (ds.drop (k + 1)) → Q (.ref b) H') : rSlF K (.ref u) (some ((k : Int) + 1)) none H Q :=
  tpSl e (fun vs t => by rw [cut_from]; exact t.drop (k + 1)) q
theorem cut_at (xs : List V) (k : Nat) : cutV xs (some (k : Int)) none = xs.drop k := by
  unfold cutV
  rw [HT.sIx_nat, HT.sIx_none]
  by_cases h : k ≤ xs.length
  · rw [Nat.min_eq_left h, List.take_of_length_le (by rw [List.length_drop]; omega)]
  · rw [Nat.min_eq_right (by omega), Nat.sub_self, List.take_zero, List.drop_of_length_le (by omega)]
theorem tpAt {N : Addr → Prop} {H : Hp} {Q : VK} {u : Addr} {ds : List PyData} {k : Nat} (e : Tp N H u ds) (q : ∀ b H', Same H H' → Tp N H' b (ds.drop k) → Q (.ref b) H') : rSlF K (.ref u) (some (k : Int)) none H Q :=
  tpSl e (fun vs t => by rw [cut_at]; exact t.drop k) q
theorem tpCat {N : Addr → Prop} {H : Hp} {Q : VK} {a b : Addr} {ds es : List PyData} (ea : Tp N H a ds) (eb : Tp N H b es) (l : ds.length + es.length ≤ sizeLine) (q : ∀ c H', Same H H' → Tp N H' c (ds ++ es) → Q (.ref c) H') : rCatF K (.ref a) (.ref b) H Q := by
  obtain ⟨vs, f, t⟩ := ea
  obtain ⟨ws, g, r⟩ := eb
  exact catFF f g (by rw [t.length, r.length]; exact l) fun c H' s e => q c H' s ⟨_, e, (t.append r).same s⟩
theorem spliceT {σ : L2.St} {H : Hp} {Q : VK} {a i : Nat} {te : TE} {u p : Addr} {qc : Addr × List Int} {n0 n1 : Nat} {N N' : Addr → Prop} {ds : List PyData} {k : Nat} {C : PyData → Prop} (hp : σ[a]? = some (some (.ref u))) (hi : σ[i]? = some (some (.int (k : Nat)))) (np : ∀ a, N a → a ≠ p) (pen : Pen K H p qc n0) (e : Tp N H u ds) (hl : ds.length ≤ 1000) (nn : ∀ a, N a → N' a)
    (ht : ∀ (H1 : Hp) (Q' : VK), Same H H1 → (∀ v d H2, Kp p H1 H2 → Pen K H2 p qc n1 → Th N' H2 v d → C d → Q' v H2) → te σ H1 Q') (q : ∀ c d H', Kp p H H' → Pen K H' p qc n1 → C d → Tp N' H' c (ds.take k ++ ([d] ++ ds.drop (k + 1))) → Q (.ref c) H') :
    tOp (rCatF K) (tOp (rCatF K) (tSl (rSlF K) (tVar a) tNoPart (tPart (tVar i))) (tTupF (tCons te tNil))) (tSl (rSlF K) (tVar a) (tPart (tOp (rAddG K) (tVar i) (tC (V.int 1)))) tNoPart) σ H Q := by
  refine ⟨.ref u, hp, .int k, hi, k, rfl, tpTo e fun b1 H1 s1 e1 => ?_⟩
  refine ht H1 _ s1 fun v d H2 k2 pen2 th cd => ⟨by show 1 ≤ sizeLine; decide, fun w o nw no => ?_⟩
  have s3 := same_new nw (o := .frz o (.tup [v]))
  have e3 : Tp N' (upd H2 w (.frz o (.tup [v]))) w [d] := ⟨[v], ⟨o, upd_same, no⟩, .cons (th.same s3) .nil⟩
  generalize upd H2 w (.frz o (.tup [v])) = H3 at s3 e3
  have kk : Kp p H H3 := fun x o ne ex => s3 _ _ (k2 x o ne (s1 _ _ ex))
  refine tpCat (((e1.kp (pen.same s1) np k2).wider nn).same s3) e3 (by rw [List.length_take, sizeLine_eq]; show _ + 1 ≤ _; omega) fun b2 H4 s4 e4 => ?_
  have k4 := kk.same s4
  refine ⟨.ref u, hp, .int k, hi, _, rfl, ?_⟩
  refine (?_ : rSlF K (.ref u) (some ((k : Int) + 1)) none H4 fun y H5 => rCatF K (.ref b2) y H5 Q)
  refine tpFrom ((e.kp pen np k4).wider nn) fun b3 H5 s5 e5 => ?_
  refine tpCat (e4.same s5) e5 (by rw [List.length_append, List.length_take, List.length_drop, sizeLine_eq]; show _ + 1 + _ ≤ _; omega) fun c H6 s6 e6 => ?_
  rw [List.append_assoc] at e6
  exact q c d H6 ((k4.same s5).same s6) (pen2.same (((s3.trans s4).trans s5).trans s6)) cd e6
theorem cutT {σ : L2.St} {H : Hp} {Q : VK} {a i : Nat} {u : Addr} {N : Addr → Prop} {ds : List PyData} {k : Nat} (hp : σ[a]? = some (some (.ref u))) (hi : σ[i]? = some (some (.int (k : Nat)))) (e : Tp N H u ds) (hl : ds.length ≤ 1000)
    (q : ∀ c H', Same H H' → Tp N H' c (ds.take k ++ ds.drop (k + 1)) → Q (.ref c) H') :
    tOp (rCatF K) (tSl (rSlF K) (tVar a) tNoPart (tPart (tVar i))) (tSl (rSlF K) (tVar a) (tPart (tOp (rAddG K) (tVar i) (tC (V.int 1)))) tNoPart) σ H Q := by
  refine ⟨.ref u, hp, .int k, hi, k, rfl, tpTo e fun b1 H1 s1 e1 => ?_⟩
  refine ⟨.ref u, hp, .int k, hi, _, rfl, ?_⟩
  refine (?_ : rSlF K (.ref u) (some ((k : Int) + 1)) none H1 fun y H5 => rCatF K (.ref b1) y H5 Q)
  refine tpFrom (e.same s1) fun b3 H5 s5 e5 => ?_
  refine tpCat (e1.same s5) e5 (by rw [List.length_take, List.length_drop, sizeLine_eq]; omega) fun c H6 s6 e6 => ?_
  exact q c H6 ((s1.trans s5).trans s6) e6
theorem wi_put {n : Nat} {ns : List Nat} {ds : List PyData} {d : PyData} {k : Nat} (l : ds.length ≤ n) (h : ∀ x ∈ ds, Wi ns x) (hd : Wi ns d) (hk : k < ds.length) : Wi (n :: ns) (.tuple (ds.take k ++ ([d] ++ ds.drop (k + 1)))) := by
  refine wi_tup (by rw [List.length_append, List.length_append, List.length_take, List.length_drop]; show _ + (1 + _) ≤ _; omega) fun x hx => ?_
  rcases List.mem_append.mp hx with m | m
  · exact h x (List.mem_of_mem_take m)
  rcases List.mem_append.mp m with m | m
  · rw [List.mem_singleton.mp m]; exact hd
  · exact h x (List.mem_of_mem_drop m)
theorem wi_cut {n : Nat} {ns : List Nat} {ds : List PyData} {k : Nat} (l : ds.length ≤ n) (h : ∀ x ∈ ds, Wi ns x) : Wi (n :: ns) (.tuple (ds.take k ++ ds.drop (k + 1))) := by
  refine wi_tup (by rw [List.length_append, List.length_take, List.length_drop]; omega) fun x hx => ?_
  rcases List.mem_append.mp hx with m | m
  · exact h x (List.mem_of_mem_take m)
  · exact h x (List.mem_of_mem_drop m)
theorem Th.mut {N : Addr → Prop} {H : Hp} {v : V} {d : PyData} {sl : Addr} {xs : List V} {o : HO} (h : Th N H v d) (e : H sl = some (.lst xs)) (n : ∀ a, N a → a ≠ sl) : Th N (upd H sl o) v d :=
  h.move (fun _ z => z) (fun a ys f => f.upd (f.ne e)) fun a o' na ea => by rw [upd_ne (n a na)]; exact ea
end
end Wd

set_option Elab.async false
set_option linter.all false
set_option maxRecDepth 100000
set_option maxHeartbeats 4000000
namespace Wd
open PySem PySem.Spec PyProof.Rows L2
abbrev s__law_bent_wish : Stmt := topS 34
theorem sc__law_bent_wish : FnScope ["pen", "hall", "wish", "names", "odd", "some", "at", "cut"] ["pen", "hall", "wish"] (C8.fnScope s__law_bent_wish) := ⟨rfl, rfl, rfl, by decide +kernel, rfl, by decide +kernel, by decide +kernel⟩
abbrev s__law_bent : Stmt := topS 35
theorem sc__law_bent : FnScope ["pen", "hall", "goal", "found", "k", "at", "wish"] ["pen", "hall", "goal"] (C8.fnScope s__law_bent) := ⟨rfl, rfl, rfl, by decide +kernel, rfl, by decide +kernel, by decide +kernel⟩
section
variable {P : Program} {w : World} {K : PySem.W.Frag} {mg : Str → Option Value} {base : Heap}
mutual
theorem Th.fresh {N : Addr → Prop} {H : Hp} {sm : Addr} (n : H sm = none) : ∀ {v : V} {d : PyData}, Th N H v d → Th (fun a => N a ∧ a ≠ sm) H v d
  | _, _, .str h => .str h
  | _, _, .non => .non
  | _, _, .bl b => .bl b
  | _, _, .int i => .int i
  | _, _, .tup e q => .tup e (ThAll.fresh n q)
  | _, _, .lst m e q => .lst ⟨m, fun z => by rw [z, n] at e; cases e⟩ e (ThAll.fresh n q)
  | _, _, .dct m e => .dct ⟨m, fun z => by rw [z, n] at e; cases e⟩ e
theorem ThAll.fresh {N : Addr → Prop} {H : Hp} {sm : Addr} (n : H sm = none) : ∀ {vs : List V} {ds : List PyData}, ThAll N H vs ds → ThAll (fun a => N a ∧ a ≠ sm) H vs ds
  | _, _, .nil => .nil
  | _, _, .cons h q => .cons (Th.fresh n h) (ThAll.fresh n q)
end
theorem ThAll.set {N : Addr → Prop} {H : Hp} {v : V} {d : PyData} (t : Th N H v d) : ∀ {vs : List V} {ds : List PyData} (j : Nat), ThAll N H vs ds → ThAll N H (vs.set j v) (ds.set j d)
  | _, _, _, .nil => .nil
  | _, _, 0, .cons h q => .cons t q
  | _, _, j + 1, .cons h q => .cons h (ThAll.set t j q)
theorem ThAll.kp {N : Addr → Prop} {H H' : Hp} {p : Addr} {vs : List V} {ds : List PyData} {qc : Addr × List Int} {n : Nat} (h : ThAll N H vs ds) (pen : Pen K H p qc n) (np : ∀ a, N a → a ≠ p) (k : Kp p H H') : ThAll N H' vs ds := by
  obtain ⟨t, r, e, _⟩ := pen
  refine h.move (fun _ z => z) (fun a xs ⟨o, ea, no⟩ => ⟨o, k _ _ (fun z => ?_) ea, no⟩) (fun a o n e => k a o (np a n) e)
  rw [z, e] at ea
  cases ea
theorem ThAll.mut {N : Addr → Prop} {H : Hp} {vs : List V} {ds : List PyData} {sl : Addr} {xs : List V} {o : HO} (h : ThAll N H vs ds) (e : H sl = some (.lst xs)) (n : ∀ a, N a → a ≠ sl) : ThAll N (upd H sl o) vs ds :=
  h.move (fun _ z => z) (fun a ys f => f.upd (f.ne e)) fun a o' na ea => by rw [upd_ne (n a na)]; exact ea
theorem cut_last {us : List V} {n : Nat} (h : us.length = n + 1) : cutV us (some (-1)) none = us.drop n := by
  have e : HT.sIx us.length 0 (some (-1)) = n := by
    show (if (-1 : Int) < 0 then ((-1 : Int) + (us.length : Int)).toNat else min (-1 : Int).toNat us.length) = n
    rw [if_pos (by decide)]
    omega
  unfold cutV
  rw [HT.sIx_none, e]
  exact List.take_of_length_le (by rw [List.length_drop]; exact Nat.le_refl _)
theorem cut_butlast {us : List V} {n : Nat} (h : us.length = n + 1) : cutV us none (some (-1)) = us.take n := by
  have e : HT.sIx us.length us.length (some (-1)) = n := by
    show (if (-1 : Int) < 0 then ((-1 : Int) + (us.length : Int)).toNat else min (-1 : Int).toNat us.length) = n
    rw [if_pos (by decide)]
    omega
  unfold cutV
  rw [HT.sIx_none, e, List.drop_zero, Nat.sub_zero]
def spBentWi (K : PySem.W.Frag) : Sp := fun vs H Q _ => ∃ (N : Addr → Prop) (p h u : Addr) (ds : List PyData) (k : Nat) (qc : Addr × List Int) (n sr sd ss sw : Nat) (x : HallH), vs = [.ref p, .ref h, .ref u] ∧ Pen K H p qc n ∧ n + 20 < 1000000 ∧ HallAt (· ≠ p) K H h x ∧ HallOk sr sd ss sw x ∧ sr ≤ 60 ∧ sd ≤ 60 ∧ ss ≤ 60 ∧ sw ≤ 60 ∧
  (∀ a, N a → a ≠ p) ∧ Tp N H u ds ∧ Wi [k, 1] (.tuple ds) ∧ 0 < ds.length ∧ 1 ≤ k ∧ k ≤ 50 ∧
  ∀ (v' : V) (d' : PyData) (H' : Hp), Kp p H H' → Pen K H' p qc (n + 10) → Th (fun a => N a ∨ H a = none) H' v' d' → Wi [k + 1, 1] d' → Q v' H'
theorem c_bentWi {c : CA} (T : Txt P w K mg base c) (c_law_draw : C8.Cal P w K mg base 1 "_law_draw" (spDraw K) []) (c_law_pick : C8.Cal P w K mg base 2 "_law_pick" (spPick K) []) (c_law_all_names : C8.Cal P w K mg base 1 "_law_all_names" (spAllN K) []) {f : Addr} {fd : FuncData} (F : C8.Def K mg "_law_bent_wish" s__law_bent_wish f fd) (b : Binds K fd ["pen", "hall", "wish"] []) : C8.Cal P w K mg base 3 "_law_bent_wish" (spBentWi K) [] := by
  refine C8.cal0 F b .nil sc__law_bent_wish (fun vs H Q E h => ?_) (fun cdv A outer s H vs Q E hr h => ?_)
  · obtain ⟨N, p, h, u, ds, k, qc, n, sr, sd, ss, sw, x, rfl, _⟩ := h
    rfl
  · obtain ⟨N, p, h, u, ds, k, qc, n, sr, sd, ss, sw, x, rfl, pen, hn, ha, ok, b1, b2, b3, b4, np, tp, wi, d0, k1, k2, q⟩ := h
    have hu := hu_of hr
    have hu6 := hu64 hr
    refine ⟨_, (C8.pss_cut (ps_set (i := 3) sc__law_bent_wish.nd rfl (.inl rfl) (C8.pe_c c_law_all_names hr (by decide) (by rfl) (pa_cons (pv 1) pa_nil)))
  (C8.pss_cut (ps_set (i := 4) sc__law_bent_wish.nd rfl (.inl rfl) (pe_lst (pa_cons pe_str (pa_cons pe_str (pa_cons pe_str (pa_cons pe_str (pa_cons pe_str (pa_cons pe_str (pa_cons pe_str (pa_cons pe_str (pa_cons pe_str (pa_cons pe_str (pa_cons pe_int (pa_cons (pe_un un_neg pe_int) (pa_cons pe_int (pa_cons pe_int (pa_cons pe_bl pa_nil)))))))))))))))))
  (C8.pss_cut (ps_set (i := 4) sc__law_bent_wish.nd rfl (.inl rfl) (pe_op (op_addG (K := K)) (pv 4) (pe_lst (pa_cons pe_non (pa_cons (pe_tupF pa_nil) (pa_cons (pe_lst pa_nil) (pa_cons (pe_op (op_pow) pe_int pe_int) (pa_cons pe_str (pa_cons pe_bl (pa_cons (pe_tupF (pa_cons (pe_ix (ixG (K := K)) (pv 3) pe_int (fun _ _ => rfl)) pa_nil)) (pa_cons (pe_lst (pa_cons (pe_ix (ixG (K := K)) (pv 3) pe_int (fun _ _ => rfl)) pa_nil)) (pa_cons pe_dnewK pa_nil))))))))))))
  (C8.pss_cut (ps_par (i := 5) (j := 6) rfl sc__law_bent_wish.nd rfl rfl (by decide) rfl rfl (pa_cons (pe_callTy (call_listG (K := K) rfl) (by rfl) T.b_list bt_list (pa_cons (pv 2) pa_nil)) (pa_cons (C8.pe_c c_law_draw hr (by decide) (by rfl) (pa_cons (pv 0) (pa_cons (pe_callB (call_lenG (K := K)) (by rfl) T.b_len bt_len (pa_cons (pv 2) pa_nil)) pa_nil))) pa_nil)) rfl)
  (pss_cons (ps_asg (C8.pe_c c_law_pick hr (by decide) (by rfl) (pa_cons (pv 0) (pa_cons (C8.pe_c c_law_pick hr (by decide) (by rfl) (pa_cons (pv 0) (pa_cons (pe_lst (pa_cons (pv 4) (pa_cons (pv 3) (pa_cons (pv 3) (pa_cons (pv 4) pa_nil))))) pa_nil))) pa_nil))) (pg_sub (pv 5) (pv 6) set_list))
  (C8.pss_cut (ps_set (i := 7) sc__law_bent_wish.nd rfl (.inl rfl) (pe_ix (ixG (K := K)) (pe_lst (pa_cons (pv 5) (pa_cons (pe_op (op_addG (K := K)) (pe_callTy (call_listG (K := K) rfl) (by rfl) T.b_list bt_list (pa_cons (pv 2) pa_nil)) (pe_slice (sl_any (K := K)) (pv 5) (po_some (pe_un un_neg pe_int)) po_none)) (pa_cons (pe_slice (sl_any (K := K)) (pe_callTy (call_listG (K := K) rfl) (by rfl) T.b_list bt_list (pa_cons (pv 2) pa_nil)) po_none (po_some (pe_un un_neg pe_int))) (pa_cons (pv 5) (pa_cons (pv 5) pa_nil)))))) (C8.pe_c c_law_draw hr (by decide) (by rfl) (pa_cons (pv 0) (pa_cons pe_int pa_nil))) (fun _ _ => rfl)))
  (pss_one (ps_ret (C8.pe_c c_law_pick hr (by decide) (by rfl) (pa_cons (pv 0) (pa_cons (pe_lst (pa_cons (pe_tupleF (K := K) (by rfl) T.b_tuple (pv 7)) (pa_cons (pe_tupleF (K := K) (by rfl) T.b_tuple (pv 7)) (pa_cons (pe_tupleF (K := K) (by rfl) T.b_tuple (pv 7)) (pa_cons (pv 7) (pa_cons (pe_ix (ixG (K := K)) (pv 5) (pv 6) (fun _ _ => rfl)) pa_nil)))))) pa_nil))))))))))), ?_⟩
    obtain ⟨t0, r0, eP, _⟩ := id pen
    have pNo : ∀ a, H a = none → a ≠ p := fun a ha z => by rw [z, eP] at ha; cases ha
    have nn : ∀ a, N a → N a ∨ H a = none := fun a h => .inl h
    have np2 : ∀ a, (N a ∨ H a = none) → a ≠ p := fun a h => h.elim (np a) (pNo a)
    have fr : ∀ {a : Addr} {Z : Hp}, Kp p H Z → a ≠ p → Z a = none → H a = none := fun {a Z} k ne e => by
      cases hh : H a with
      | none => rfl
      | some o =>
        have := k _ _ ne hh
        rw [e] at this
        cases this
    obtain ⟨wl, we⟩ := wi_inv wi
    -- names
    refine ⟨fun σ Z => ∃ nl : Addr, σ = [some (.ref p), some (.ref h), some (.ref u), some (.ref nl), none, none, none, none] ∧ Same H Z ∧ Z nl = some (.lst ((allN x).map V.str)), ?_, ?_⟩
    · exact ⟨.ref h, rfl, _, h, sr, sd, ss, sw, x, rfl, ha, ok, b1, b2, b3, b4, fun l Z s nl e => ⟨l, rfl, s, e⟩⟩
    rintro σ1 G1 ⟨nl, rfl, s1, en⟩
    have tn : ∀ z ∈ allN x, TxtD z := fun z hz => txt_name (ok.n2 _ (by
      unfold allN at hz
      unfold HallH.names
      simp only [List.mem_append] at hz ⊢
      rcases hz with ((h | h) | h) | h
      · exact .inl h
      · exact .inr (.inr (.inr h))
      · exact .inr (.inr (.inl h))
      · exact .inr (.inl h)))
    have nlen : 0 < (allN x).length ∧ (allN x).length ≤ 240 := by
      have r1 := ok.r1
      have r2 := ok.r2
      have d2' := ok.d2
      have s2' := ok.s2
      have w2' := ok.w2
      unfold allN
      simp only [List.length_map, List.length_append]
      omega
    generalize allN x = NS at en tn nlen
    obtain ⟨na, hn0⟩ : ∃ s, NS[0]? = some s := ⟨_, List.getElem?_eq_getElem nlen.1⟩
    have tna := tn na (List.mem_of_getElem? hn0)
    have one : ∀ {Z : Hp} {Q2 : VK}, Z nl = some (.lst (NS.map V.str)) → Q2 (.str na) Z → rIx K (.ref nl) (.int 0) Z Q2 := fun e q => .inl ⟨nl, _, 0, _, rfl, rfl, .inl (.inl e), atI_in (j := 0) rfl (by rw [List.getElem?_map, hn0]; rfl), q⟩
    -- odd ones
    refine ⟨fun σ Z => ∃ (ol : Addr) (vs : List V), σ = [some (.ref p), some (.ref h), some (.ref u), some (.ref nl), some (.ref ol), none, none, none] ∧ Same H Z ∧ Z nl = some (.lst (NS.map V.str)) ∧ Z ol = some (.lst vs) ∧ vs.length = 15 ∧ ∀ y ∈ vs, ∃ d, (∀ Z2, Th (fun a => H a = none) Z2 y d) ∧ Wi [1] d, ?_, ?_⟩
    · refine ⟨_, rfl, by show 15 ≤ sizeLine; decide, fun ol nol => ?_⟩
      generalize hvs : [V.str (Str.ofString "at"), V.str (Str.ofString "lies"), V.str (Str.ofString "held"), V.str (Str.ofString "open"), V.str (Str.ofString "bears"), V.str (Str.ofString "At"), V.str (Str.ofString ""), V.str (Str.ofString "nobody"), V.str (Str.ofString "ninewords"), V.str (Str.ofString "a1"), .int 0, .int (-1), .int 9999999, .int 10000000, .bl true] = vs
      have k := same_new nol (o := .lst vs)
      refine ⟨ol, vs, rfl, s1.trans k, k _ _ en, upd_same, by rw [← hvs]; rfl, fun y hy => ?_⟩
      subst hvs
      simp only [List.mem_cons, List.not_mem_nil, or_false] at hy
      rcases hy with rfl | rfl | rfl | rfl | rfl | rfl | rfl | rfl | rfl | rfl | rfl | rfl | rfl | rfl | rfl
      · exact ⟨_, fun _ => .str (by decide +kernel), Atm.wi (atm_str (tx_of (by decide +kernel) (by decide +kernel)))⟩
      · exact ⟨_, fun _ => .str (by decide +kernel), Atm.wi (atm_str (tx_of (by decide +kernel) (by decide +kernel)))⟩
      · exact ⟨_, fun _ => .str (by decide +kernel), Atm.wi (atm_str (tx_of (by decide +kernel) (by decide +kernel)))⟩
      · exact ⟨_, fun _ => .str (by decide +kernel), Atm.wi (atm_str (tx_of (by decide +kernel) (by decide +kernel)))⟩
      · exact ⟨_, fun _ => .str (by decide +kernel), Atm.wi (atm_str (tx_of (by decide +kernel) (by decide +kernel)))⟩
      · exact ⟨_, fun _ => .str (by decide +kernel), Atm.wi (atm_str (tx_of (by decide +kernel) (by decide +kernel)))⟩
      · exact ⟨_, fun _ => .str (by decide +kernel), Atm.wi (atm_str (tx_of (by decide +kernel) (by decide +kernel)))⟩
      · exact ⟨_, fun _ => .str (by decide +kernel), Atm.wi (atm_str (tx_of (by decide +kernel) (by decide +kernel)))⟩
      · exact ⟨_, fun _ => .str (by decide +kernel), Atm.wi (atm_str (tx_of (by decide +kernel) (by decide +kernel)))⟩
      · exact ⟨_, fun _ => .str (by decide +kernel), Atm.wi (atm_str (tx_of (by decide +kernel) (by decide +kernel)))⟩
      · exact ⟨_, fun _ => .int _, Atm.wi (atm_int (by decide))⟩
      · exact ⟨_, fun _ => .int _, Atm.wi (atm_int (by decide))⟩
      · exact ⟨_, fun _ => .int _, Atm.wi (atm_int (by decide))⟩
      · exact ⟨_, fun _ => .int _, Atm.wi (atm_int (by decide))⟩
      · exact ⟨_, fun _ => .bl _, Atm.wi (atm_bl _)⟩
    rintro σ2 G2 ⟨ol, vs, rfl, s2, en2, eo, vl, vg⟩
    clear s1 en
    have k2' : Kp p H G2 := fun a o _ e => s2 a o e
    refine ⟨fun σ Z => ∃ (ol : Addr) (vs : List V), σ = [some (.ref p), some (.ref h), some (.ref u), some (.ref nl), some (.ref ol), none, none, none] ∧ Same H Z ∧ Z nl = some (.lst (NS.map V.str)) ∧ Z ol = some (.lst vs) ∧ vs.length = 24 ∧ ∀ y ∈ vs, ∃ d, Th (fun a => H a = none) Z y d ∧ Wi [1] d, ?_, ?_⟩
    · refine ⟨.ref ol, rfl, by show 0 ≤ sizeLine; decide, fun u1 o1 m1 no1 => ?_⟩
      have a1 := same_new m1 (o := .frz o1 (.tup []))
      have f1 : FT (upd G2 u1 (.frz o1 (.tup []))) u1 [] := ⟨o1, upd_same, no1⟩
      generalize upd G2 u1 (.frz o1 (.tup [])) = A1 at a1 f1
      refine ⟨by show 0 ≤ sizeLine; decide, fun u2 m2 => ?_⟩
      have a2 := same_new m2 (o := .lst [])
      have e2 : (upd A1 u2 (.lst [])) u2 = some (.lst []) := upd_same
      have s12 := s2.trans a1
      have h2' := s12.free m2
      generalize upd A1 u2 (.lst []) = A2 at a2 e2
      have s13 := s12.trans a2
      refine ⟨_, _, rfl, rfl, ⟨by decide, by decide, by decide⟩, .ref nl, rfl, one ((a1.trans a2) _ _ en2) ⟨by show 1 ≤ sizeLine; decide, fun u4 o4 m4 no4 => ?_⟩⟩
      have a4 := same_new m4 (o := .frz o4 (.tup [.str na]))
      have f4 : FT (upd A2 u4 (.frz o4 (.tup [.str na]))) u4 [.str na] := ⟨o4, upd_same, no4⟩
      generalize upd A2 u4 (.frz o4 (.tup [.str na])) = A4 at a4 f4
      have s15 := s13.trans a4
      refine ⟨.ref nl, rfl, one (((a1.trans a2).trans a4) _ _ en2) ⟨by show 1 ≤ sizeLine; decide, fun u5 m5 => ?_⟩⟩
      have a5 := same_new m5 (o := .lst [.str na])
      have e5 : (upd A4 u5 (.lst [.str na])) u5 = some (.lst [.str na]) := upd_same
      have h5' := s15.free m5
      generalize upd A4 u5 (.lst [.str na]) = A5 at a5 e5
      have s16 := s15.trans a5
      refine fun u3 m3 => ?_
      have a3 := same_new m3 (o := .dK [])
      have e3 : (upd A5 u3 (.dK [])) u3 = some (.dK []) := upd_same
      have h3' := s16.free m3
      generalize upd A5 u3 (.dK []) = A3 at a3 e3
      have s17 := s16.trans a3
      refine ⟨by show 9 ≤ sizeLine; decide, fun u6 m6 => ?_⟩
      generalize hws : [V.non, V.ref u1, V.ref u2, V.int (10 ^ (30 : Int).toNat), V.str (Str.ofString "0"), V.bl false, V.ref u4, V.ref u5, V.ref u3] = ws
      have a6 := same_new m6 (o := .lst ws)
      have e6 : (upd A3 u6 (.lst ws)) u6 = some (.lst ws) := upd_same
      have wl9 : ws.length = 9 := by rw [← hws]; rfl
      generalize upd A3 u6 (.lst ws) = A6 at a6 e6
      have b6 := ((((a1.trans a2).trans a4).trans a5).trans a3).trans a6
      refine .inl ⟨ol, u6, _, _, rfl, rfl, b6 _ _ eo, e6, by rw [vl, wl9]; decide, fun u7 m7 => ?_⟩
      have a7 := same_new m7 (o := .lst (vs ++ ws))
      refine ⟨u7, vs ++ ws, rfl, (s17.trans a6).trans a7, (b6.trans a7) _ _ en2, upd_same, by rw [List.length_append, vl, wl9], fun y hy => ?_⟩
      generalize upd A6 u7 (.lst (vs ++ ws)) = A7 at a7
      have aZ := a6.trans a7
      rcases List.mem_append.mp hy with hy | hy
      · obtain ⟨d, a, b⟩ := vg y hy
        exact ⟨d, a _, b⟩
      · subst hws
        simp only [List.mem_cons, List.not_mem_nil, or_false] at hy
        rcases hy with rfl | rfl | rfl | rfl | rfl | rfl | rfl | rfl | rfl
        · exact ⟨_, .non, Atm.wi atm_non⟩
        · exact ⟨_, .tup (f1.same ((((a2.trans a4).trans a5).trans a3).trans aZ)) .nil, wi_tup (by decide) fun _ h => nomatch h⟩
        · exact ⟨_, .lst h2' (((((a4.trans a5).trans a3).trans aZ)) _ _ e2) .nil, wi_lst (by decide) fun _ h => nomatch h⟩
        · exact ⟨_, .int _, Atm.wi (atm_int (by decide +kernel))⟩
        · exact ⟨_, .str (by decide +kernel), Atm.wi (atm_str (tx_of (by decide +kernel) (by decide +kernel)))⟩
        · exact ⟨_, .bl _, Atm.wi (atm_bl _)⟩
        · exact ⟨_, .tup (f4.same ((a5.trans a3).trans aZ)) (.cons (.str tna.2.1) .nil), wi_tup (Nat.le_refl 1) fun _ h => by rw [List.mem_singleton.mp h]; exact atm_str tna⟩
        · exact ⟨_, .lst h5' ((a3.trans aZ) _ _ e5) (.cons (.str tna.2.1) .nil), wi_lst (Nat.le_refl 1) fun _ h => by rw [List.mem_singleton.mp h]; exact atm_str tna⟩
        · exact ⟨_, .dct h3' (aZ _ _ e3), Atm.wi atm_dct⟩
    rintro σ3 G3 ⟨ol3, vs3, rfl, s3, en3, eo3, vl3, vg3⟩
    clear vg eo vl en2 s2 k2'
    -- the wish as a list, and a place
    refine ⟨fun σ Z => ∃ (sm : Addr) (at_ : Nat) (pvs : List V), σ = [some (.ref p), some (.ref h), some (.ref u), some (.ref nl), some (.ref ol3), some (.ref sm), some (.int (at_ : Nat)), none] ∧ Kp p G3 Z ∧ Pen K Z p qc (n + 1) ∧ G3 sm = none ∧ Z sm = some (.lst pvs) ∧ ThAll (fun a => N a ∧ a ≠ sm) Z pvs ds ∧ at_ < ds.length, ?_, ?_⟩
    · obtain ⟨pvs, f, qs⟩ := tp.same s3
      refine ⟨.ref u, rfl, u, rfl, .inl ⟨_, .inr f.sqT, fun sm nsm => ?_⟩⟩
      have k := same_new nsm (o := .lst pvs)
      have qf := (qs.fresh nsm).same k
      have e0 : (upd G3 sm (.lst pvs)) sm = some (.lst pvs) := upd_same
      have pen1 := (pen.same s3).same k
      have smp := (pen.same s3).off nsm
      generalize upd G3 sm (.lst pvs) = A1 at k qf e0 pen1
      refine ⟨.ref p, rfl, .ref u, rfl, .inl ⟨_, .inr (f.same k).sqT, ?_⟩⟩
      rw [qs.length]
      refine ⟨p, qc, _, n, rfl, pen1, by omega, by omega, by omega, fun kk H1 k0 k1' kp1 pen2 => ?_⟩
      obtain ⟨at_, rfl⟩ : ∃ k : Nat, kk = k := ⟨kk.toNat, by omega⟩
      exact ⟨_, _, rfl, sm, at_, pvs, rfl, fun a o ne e => kp1 a o ne (k _ _ e), pen2, nsm, kp1 _ _ smp e0, qf.kp pen1 (fun a h => np a h.1) kp1, by omega⟩
    rintro σ4 G4 ⟨sm, at_, pvs, rfl, k4, pen4, nsm, esm, tpv, atl⟩
    have smp : sm ≠ p := (pen.same s3).off nsm
    obtain ⟨t3, r3, eP3, _⟩ := pen.same s3
    have olp : ol3 ≠ p := fun z => by rw [z, eP3] at eo3; cases eo3
    have nlp : nl ≠ p := fun z => by rw [z, eP3] at en3; cases en3
    have smH : H sm = none := s3.free nsm
    have kH4 : Kp p H G4 := fun a o ne e => k4 a o ne (s3 _ _ e)
    have nE : ∀ a, ((N a ∨ H a = none) ∧ a ≠ sm) → a ≠ p := fun a h => np2 a h.1
    have ov : ∀ y ∈ vs3, ∃ d, Th (fun a => (N a ∨ H a = none) ∧ a ≠ sm) G4 y d ∧ Wi [1] d := fun y hy => by
      obtain ⟨d, a, b⟩ := vg3 y hy
      refine ⟨d, Th.kp ((a.fresh nsm).wider fun a h => ⟨.inr h.1, h.2⟩) (pen.same s3) nE k4, b⟩
    have tpv' : ThAll (fun a => (N a ∨ H a = none) ∧ a ≠ sm) G4 pvs ds := tpv.move (fun a h => ⟨.inl h.1, h.2⟩) (fun _ _ e => e) fun _ _ _ e => e
    have eo4 := k4 _ _ olp eo3
    have en4 := k4 _ _ nlp en3
    -- one is otherwise
    refine ⟨.ref p, rfl, .ref p, rfl, .ref ol3, rfl, .ref nl, rfl, .ref nl, rfl, .ref ol3, rfl, by show 4 ≤ sizeLine; decide, fun l4 n4 => ?_⟩
    have kl := same_new n4 (o := .lst [.ref ol3, .ref nl, .ref nl, .ref ol3])
    have el4 : (upd G4 l4 (.lst [.ref ol3, .ref nl, .ref nl, .ref ol3])) l4 = some (.lst [.ref ol3, .ref nl, .ref nl, .ref ol3]) := upd_same
    have l4p := pen4.off n4
    have pen5 := pen4.same kl
    generalize upd G4 l4 (.lst [.ref ol3, .ref nl, .ref nl, .ref ol3]) = G5 at kl el4 pen5
    refine ⟨p, .ref l4, qc, n + 1, _, rfl, pen5, by omega, .inl ⟨l4, rfl, l4p, .inl (.inl (.inl el4))⟩, by show 0 < 4; decide, by show 4 < 1000000; decide, fun lv Z2 mv kp2 pen6 => ?_⟩
    have k46 : Kp p G4 Z2 := fun a o ne e => kp2 a o ne (kl _ _ e)
    obtain ⟨xs, lo, hlo, hx1, hx2, hgood⟩ : ∃ (xs : List V) (lo : Addr), lv = .ref lo ∧ lo ≠ p ∧ Z2 lo = some (.lst xs) ∧ (0 < xs.length ∧ xs.length < 1000) ∧ ∀ y ∈ xs, ∃ d, Th (fun a => (N a ∨ H a = none) ∧ a ≠ sm) Z2 y d ∧ Wi [1] d := by
      have o1 : ∀ y ∈ vs3, ∃ d, Th (fun a => (N a ∨ H a = none) ∧ a ≠ sm) Z2 y d ∧ Wi [1] d := fun y hy => by
        obtain ⟨d, a, b⟩ := ov y hy
        exact ⟨d, Th.kp a pen4 nE k46, b⟩
      have o2 : ∀ y ∈ NS.map V.str, ∃ d, Th (fun a => (N a ∨ H a = none) ∧ a ≠ sm) Z2 y d ∧ Wi [1] d := fun y hy => by
        obtain ⟨z, hz, rfl⟩ := List.mem_map.mp hy
        exact ⟨_, .str (tn z hz).2.1, Atm.wi (atm_str (tn z hz))⟩
      simp only [List.mem_cons, List.not_mem_nil, or_false] at mv
      rcases mv with rfl | rfl | rfl | rfl
      · exact ⟨_, _, rfl, olp, k46 _ _ olp eo4, by omega, o1⟩
      · exact ⟨_, _, rfl, nlp, k46 _ _ nlp en4, by rw [List.length_map]; omega, o2⟩
      · exact ⟨_, _, rfl, nlp, k46 _ _ nlp en4, by rw [List.length_map]; omega, o2⟩
      · exact ⟨_, _, rfl, olp, k46 _ _ olp eo4, by omega, o1⟩
    subst hlo
    refine ⟨p, .ref lo, qc, n + 2, xs, rfl, pen6, by omega, .inl ⟨lo, rfl, hx1, .inl (.inl (.inl hx2))⟩, hgood.1.1, by omega, fun v Z3 mv3 kp3 pen7 => ?_⟩
    obtain ⟨dv, tv, wv⟩ := hgood.2 v mv3
    have k47 := k46.trans kp3
    have tv := Th.kp tv pen6 nE kp3
    have esm3 := k47 _ _ smp esm
    have tp3 := tpv'.kp pen4 nE k47
    have pl := tpv.length
    have kp7 : Kp p H (upd Z3 sm (.lst (pvs.set at_ v))) := fun a o ne e => by
      rw [upd_ne (ne_of_none e smH)]
      exact k47 a o ne (kH4 a o ne e)
    have pen8 : Pen K (upd Z3 sm (.lst (pvs.set at_ v))) p qc (n + 3) := pen7.wr pen smH
    have esm4 : (upd Z3 sm (.lst (pvs.set at_ v))) sm = some (.lst (pvs.set at_ v)) := upd_same
    have tp4 : ThAll (fun a => (N a ∨ H a = none) ∧ a ≠ sm) (upd Z3 sm (.lst (pvs.set at_ v))) (pvs.set at_ v) (ds.set at_ dv) := (ThAll.set tv at_ tp3).mut esm3 fun a h => h.2
    have w4 : ∀ z ∈ ds.set at_ dv, Wi [1] z := fun z hz => by
      rcases List.mem_or_eq_of_mem_set hz with m | rfl
      · exact we z m
      · exact wv
    have dl4 : (ds.set at_ dv).length = ds.length := List.length_set
    have pl4 : (pvs.set at_ v).length = ds.length := by rw [List.length_set, pl]
    refine ⟨.ref sm, rfl, .int (at_ : Nat), rfl, sm, pvs, _, at_, rfl, rfl, esm3, ixN_nat (by omega), ?_⟩
    generalize upd Z3 sm (.lst (pvs.set at_ v)) = G6 at kp7 pen8 esm4 tp4
    generalize pvs.set at_ v = ps at esm4 tp4 pl4
    generalize ds.set at_ dv = es at tp4 w4 dl4
    clear tv esm3 tp3 pen7 kp3 k47 hgood hx2 kp2 pen6 k46 kl el4 pen5 tpv tpv' ov eo4 en4 esm pen4 k4 eo3 en3 vg3
    have tpF : Tp (fun a => (N a ∨ H a = none) ∧ a ≠ sm) G6 u ds := ((Tp.of (tp.th.fresh smH)).wider (N' := fun a => (N a ∨ H a = none) ∧ a ≠ sm) fun a h => ⟨.inl h.1, h.2⟩).kp pen nE kp7
    -- what is cut or lengthened
    refine ⟨fun σ Z => ∃ (cl : Addr) (cvs : List V) (cds : List PyData), σ = [some (.ref p), some (.ref h), some (.ref u), some (.ref nl), some (.ref ol3), some (.ref sm), some (.int (at_ : Nat)), some (.ref cl)] ∧ Kp p H Z ∧ Pen K Z p qc (n + 4) ∧ Z sm = some (.lst ps) ∧ ThAll (fun a => (N a ∨ H a = none) ∧ a ≠ sm) Z ps es ∧ H cl = none ∧ Z cl = some (.lst cvs) ∧ ThAll (fun a => (N a ∨ H a = none) ∧ a ≠ sm) Z cvs cds ∧ cds.length ≤ k + 1 ∧ ∀ z ∈ cds, Wi [1] z, ?_, ?_⟩
    · obtain ⟨pv0, f, qs⟩ := tpF
      have ql := qs.length
      refine ⟨.ref sm, rfl, .ref u, rfl, u, rfl, .inl ⟨_, .inr f.sqT, fun l1 n1 => ?_⟩⟩
      have a1 := same_new n1 (o := .lst pv0)
      have g1 : (upd G6 l1 (.lst pv0)) l1 = some (.lst pv0) := upd_same
      generalize upd G6 l1 (.lst pv0) = A1 at a1 g1
      refine ⟨.ref sm, rfl, _, rfl, _, rfl, .inl ⟨sm, ps, rfl, .inl (.inl (a1 _ _ esm4)), fun l2 n2 => ?_⟩⟩
      rw [cut_last (n := ds.length - 1) (by omega)]
      have a2 := same_new n2 (o := .lst (ps.drop (ds.length - 1)))
      have g2 : (upd A1 l2 (.lst (ps.drop (ds.length - 1)))) l2 = some (.lst (ps.drop (ds.length - 1))) := upd_same
      generalize upd A1 l2 (.lst (ps.drop (ds.length - 1))) = A2 at a2 g2
      refine .inl ⟨l1, l2, _, _, rfl, rfl, a2 _ _ g1, g2, by rw [List.length_drop, sizeLine_eq]; omega, fun l3 n3 => ?_⟩
      have b2 := a1.trans a2
      have hl3 := fr (kp7.same b2) ((pen8.same b2).off n3) n3
      have a3 := same_new n3 (o := .lst (pv0 ++ ps.drop (ds.length - 1)))
      have g3 : (upd A2 l3 (.lst (pv0 ++ ps.drop (ds.length - 1)))) l3 = some (.lst (pv0 ++ ps.drop (ds.length - 1))) := upd_same
      generalize upd A2 l3 (.lst (pv0 ++ ps.drop (ds.length - 1))) = A3 at a3 g3
      have b3 := b2.trans a3
      refine ⟨.ref u, rfl, u, rfl, .inl ⟨_, .inr (f.same b3).sqT, fun l4 n4 => ?_⟩⟩
      have a4 := same_new n4 (o := .lst pv0)
      have g4 : (upd A3 l4 (.lst pv0)) l4 = some (.lst pv0) := upd_same
      generalize upd A3 l4 (.lst pv0) = A4 at a4 g4
      refine ⟨_, rfl, _, rfl, .inl ⟨l4, pv0, rfl, .inl (.inl g4), fun l5 n5 => ?_⟩⟩
      rw [cut_butlast (n := ds.length - 1) (by omega)]
      have b4 := b3.trans a4
      have hl5 := fr (kp7.same b4) ((pen8.same b4).off n5) n5
      have a5 := same_new n5 (o := .lst (pv0.take (ds.length - 1)))
      have g5 : (upd A4 l5 (.lst (pv0.take (ds.length - 1)))) l5 = some (.lst (pv0.take (ds.length - 1))) := upd_same
      generalize upd A4 l5 (.lst (pv0.take (ds.length - 1))) = A5 at a5 g5
      refine ⟨.ref sm, rfl, .ref sm, rfl, by show 5 ≤ sizeLine; decide, fun l6 n6 => ?_⟩
      have b5 := b4.trans a5
      have a6 := same_new n6 (o := .lst [.ref sm, .ref l3, .ref l5, .ref sm, .ref sm])
      have g6 : (upd A5 l6 (.lst [.ref sm, .ref l3, .ref l5, .ref sm, .ref sm])) l6 = some (.lst [.ref sm, .ref l3, .ref l5, .ref sm, .ref sm]) := upd_same
      have l6p := (pen8.same b5).off n6
      generalize upd A5 l6 (.lst [.ref sm, .ref l3, .ref l5, .ref sm, .ref sm]) = A6 at a6 g6
      have b6 := b5.trans a6
      have pen9 := pen8.same b6
      refine ⟨.ref p, rfl, p, qc, 5, n + 3, rfl, pen9, by omega, by decide, by decide, fun dd Z d0' d5 kpd penZ => ?_⟩
      have kZ : Kp p H Z := (kp7.same b6).trans kpd
      have k6Z : Kp p G6 Z := fun a o ne e => kpd a o ne (b6 _ _ e)
      have esZ := k6Z _ _ smp esm4
      have tZ := tp4.kp pen8 nE k6Z
      have qZ := qs.kp pen8 nE k6Z
      have l3p : l3 ≠ p := pNo _ hl3
      have l5p : l5 ≠ p := pNo _ hl5
      have e3Z := kpd _ _ l3p ((((a4.trans a5).trans a6)) _ _ g3)
      have e5Z := kpd _ _ l5p (a6 _ _ g5)
      obtain ⟨cl, hcl, c1, cvs, cds, c2, c3, c4, c5⟩ : ∃ cl, atI [V.ref sm, .ref l3, .ref l5, .ref sm, .ref sm] dd = some (.ref cl) ∧ H cl = none ∧ ∃ cvs cds, Z cl = some (.lst cvs) ∧ ThAll (fun a => (N a ∨ H a = none) ∧ a ≠ sm) Z cvs cds ∧ cds.length ≤ k + 1 ∧ ∀ z ∈ cds, Wi [1] z := by
        have hd : dd = 0 ∨ dd = 1 ∨ dd = 2 ∨ dd = 3 ∨ dd = 4 := by omega
        have own : ∃ cvs cds, Z sm = some (.lst cvs) ∧ ThAll (fun a => (N a ∨ H a = none) ∧ a ≠ sm) Z cvs cds ∧ cds.length ≤ k + 1 ∧ ∀ z ∈ cds, Wi [1] z := ⟨_, _, esZ, tZ, by omega, w4⟩
        rcases hd with rfl | rfl | rfl | rfl | rfl
        · exact ⟨sm, rfl, smH, own⟩
        · refine ⟨l3, rfl, hl3, _, _, e3Z, qZ.append (tZ.drop (ds.length - 1)), by rw [List.length_append, List.length_drop]; omega, fun z hz => ?_⟩
          rcases List.mem_append.mp hz with m | m
          · exact we z m
          · exact w4 z (List.mem_of_mem_drop m)
        · exact ⟨l5, rfl, hl5, _, _, e5Z, qZ.take (ds.length - 1), by rw [List.length_take]; omega, fun z hz => we z (List.mem_of_mem_take hz)⟩
        · exact ⟨sm, rfl, smH, own⟩
        · exact ⟨sm, rfl, smH, own⟩
      exact .inl ⟨l6, _, dd, .ref cl, rfl, rfl, .inl (.inl (kpd _ _ l6p g6)), hcl, cl, cvs, cds, rfl, kZ, penZ, esZ, tZ, c1, c2, c3, c4, c5⟩
    rintro σ7 G7 ⟨cl, cvs, cds, rfl, k7, pen9, es7, tp7, hcl, ec, tc, cdl, wc⟩
    have wide : ∀ a, ((N a ∨ H a = none) ∧ a ≠ sm) → (N a ∨ H a = none) := fun a h => h.1
    have tcl := tc.length
    refine ⟨.ref p, rfl, .ref cl, rfl, cl, _, rfl, .inl (.inl ec), fun u1 o1 m1 no1 => ?_⟩
    have a1 := same_new m1 (o := .frz o1 (.tup cvs))
    have f1 : FT (upd G7 u1 (.frz o1 (.tup cvs))) u1 cvs := ⟨o1, upd_same, no1⟩
    generalize upd G7 u1 (.frz o1 (.tup cvs)) = A1 at a1 f1
    refine ⟨.ref cl, rfl, cl, _, rfl, .inl (.inl (a1 _ _ ec)), fun u2 o2 m2 no2 => ?_⟩
    have a2 := same_new m2 (o := .frz o2 (.tup cvs))
    have f2 : FT (upd A1 u2 (.frz o2 (.tup cvs))) u2 cvs := ⟨o2, upd_same, no2⟩
    generalize upd A1 u2 (.frz o2 (.tup cvs)) = A2 at a2 f2
    refine ⟨.ref cl, rfl, cl, _, rfl, .inl (.inl ((a1.trans a2) _ _ ec)), fun u3 o3 m3 no3 => ?_⟩
    have a3 := same_new m3 (o := .frz o3 (.tup cvs))
    have f3 : FT (upd A2 u3 (.frz o3 (.tup cvs))) u3 cvs := ⟨o3, upd_same, no3⟩
    generalize upd A2 u3 (.frz o3 (.tup cvs)) = A3 at a3 f3
    have b3 := (a1.trans a2).trans a3
    have pat : at_ < ps.length := by omega
    obtain ⟨ed, hed, ted⟩ := (tp7.same b3).at (List.getElem?_eq_getElem pat)
    refine ⟨.ref cl, rfl, .ref sm, rfl, .int (at_ : Nat), rfl, .inl ⟨sm, ps, _, _, rfl, rfl, .inl (.inl (b3 _ _ es7)), atI_in (j := at_) rfl (List.getElem?_eq_getElem pat), by show 5 ≤ sizeLine; decide, fun l6 n6 => ?_⟩⟩
    generalize hws : [V.ref u1, .ref u2, .ref u3, .ref cl, ps[at_]] = ws
    have a6 := same_new n6 (o := .lst ws)
    have g6 : (upd A3 l6 (.lst ws)) l6 = some (.lst ws) := upd_same
    have l6p := (pen9.same b3).off n6
    have wl5 : ws.length = 5 := by rw [← hws]; rfl
    generalize upd A3 l6 (.lst ws) = A6 at a6 g6
    have b6 := b3.trans a6
    have penA := pen9.same b6
    refine ⟨p, .ref l6, qc, n + 4, ws, rfl, penA, by omega, .inl ⟨l6, rfl, l6p, .inl (.inl (.inl g6))⟩, by omega, by omega, fun v Z mv kpz penZ => ?_⟩
    have tcW : ThAll (fun a => N a ∨ H a = none) A6 cvs cds := (tc.same b6).move wide (fun _ _ e => e) fun _ _ _ e => e
    obtain ⟨d8, th8, wi8⟩ : ∃ d, Th (fun a => N a ∨ H a = none) A6 v d ∧ Wi [k + 1, 1] d := by
      subst hws
      simp only [List.mem_cons, List.not_mem_nil, or_false] at mv
      rcases mv with rfl | rfl | rfl | rfl | rfl
      · exact ⟨_, .tup (f1.same ((a2.trans a3).trans a6)) tcW, wi_tup cdl wc⟩
      · exact ⟨_, .tup (f2.same (a3.trans a6)) tcW, wi_tup cdl wc⟩
      · exact ⟨_, .tup (f3.same a6) tcW, wi_tup cdl wc⟩
      · exact ⟨_, .lst (.inr hcl) (b6 _ _ ec) tcW, wi_lst cdl wc⟩
      · exact ⟨ed, (ted.same a6).wider wide, wi_odd (w4 ed (List.mem_of_getElem? hed)) (by omega)⟩
    exact q v d8 Z ((k7.same b6).trans kpz) (penZ.le (by omega)) (Th.kp th8 penA np2 kpz) wi8
end
end Wd

set_option Elab.async false
set_option linter.all false
set_option maxRecDepth 100000
set_option maxHeartbeats 4000000
namespace Wd
open PySem PySem.Spec PyProof.Rows L2
section
variable {P : Program} {w : World} {K : PySem.W.Frag} {mg : Str → Option Value} {base : Heap}
def spBentG (K : PySem.W.Frag) : Sp := fun vs H Q _ => ∃ (N : Addr → Prop) (p h u : Addr) (ds : List PyData) (m k : Nat) (qc : Addr × List Int) (n sr sd ss sw : Nat) (x : HallH), vs = [.ref p, .ref h, .ref u] ∧ Pen K H p qc n ∧ n + 40 < 1000000 ∧ HallAt (· ≠ p) K H h x ∧ HallOk sr sd ss sw x ∧ sr ≤ 60 ∧ sd ≤ 60 ∧ ss ≤ 60 ∧ sw ≤ 60 ∧
  (∀ a, N a → a ≠ p) ∧ Tp N H u ds ∧ Wi [m, k, 1] (.tuple ds) ∧ 1 ≤ m ∧ m ≤ 50 ∧ 2 ≤ k ∧ k ≤ 40 ∧
  ∀ (v' : V) (d' : PyData) (H' : Hp), Kp p H H' → Pen K H' p qc (n + 30) → Th (fun a => N a ∨ H a = none) H' v' d' → Wi [m, k + 2, 1] d' → Q v' H'
theorem c_bentG {c : CA} (T : Txt P w K mg base c) (c_law_draw : C8.Cal P w K mg base 1 "_law_draw" (spDraw K) []) (c_law_pick : C8.Cal P w K mg base 2 "_law_pick" (spPick K) []) (c_law_bent_wish : C8.Cal P w K mg base 3 "_law_bent_wish" (spBentWi K) []) {f : Addr} {fd : FuncData} (F : C8.Def K mg "_law_bent" s__law_bent f fd) (b : Binds K fd ["pen", "hall", "goal"] []) : C8.Cal P w K mg base 4 "_law_bent" (spBentG K) [] := by
  refine C8.cal0 F b .nil sc__law_bent (fun vs H Q E h => ?_) (fun cdv A outer s H vs Q E hr h => ?_)
  · obtain ⟨N, p, h, u, ds, m, k, qc, n, sr, sd, ss, sw, x, rfl, _⟩ := h
    rfl
  · obtain ⟨N, p, h, u, ds, m, k, qc, n, sr, sd, ss, sw, x, rfl, pen, hn, ha, ok, b1, b2, b3, b4, np, tp, wi, m1, m2, k1, k2, q⟩ := h
    have hu := hu_of hr
    have hu6 := hu64 hr
    refine ⟨_, (C8.pss_cut (ps_set (i := 3) sc__law_bent.nd rfl (.inl rfl) (pe_callTy (call_listG (K := K) rfl) (by rfl) T.b_list bt_list (pa_cons (pv 2) pa_nil)))
  (C8.pss_cut (ps_for PassesOwn.never rfl (pi_range1 rfl T.b_range (pa_cons (pe_op (op_addG (K := K)) pe_int (C8.pe_c c_law_draw hr (by decide) (by rfl) (pa_cons (pv 0) (pa_cons pe_int pa_nil)))) pa_nil)) (pg_name (i := 4) sc__law_bent.nd rfl (.inl rfl))
    (pss_one (ps_if (pt_cmpR (op_neL0 (K := K) hu6) (pv 3) (pe_lst pa_nil) (nomark _)) (C8.pss_cut (ps_set (i := 5) sc__law_bent.nd rfl (.inl rfl) (C8.pe_c c_law_draw hr (by decide) (by rfl) (pa_cons (pv 0) (pa_cons (pe_callB (call_lenG (K := K)) (by rfl) T.b_len bt_len (pa_cons (pv 3) pa_nil)) pa_nil))))
  (C8.pss_cut (ps_set (i := 6) sc__law_bent.nd rfl (.inl rfl) (pe_ifExp (PW.pt (pw_and (pt_truK (K := K) (pe_callB (call_isAny) (by rfl) T.b_isinstance bt_isinstance (pa_cons (pe_ix (ixG (K := K)) (pv 3) (pv 5) (fun _ _ => rfl)) (pa_cons (pe_bltn (v := .ty "tuple") (by rfl) T.b_tuple (by decide +kernel) rfl) pa_nil))) (fun _ => rfl)) (pw_and1 (pt_cmpR (op_ne0 (K := K) hu6) (pe_ix (ixG (K := K)) (pv 3) (pv 5) (fun _ _ => rfl)) (pe_tup pa_nil) (nomark _))))) (pe_ix (ixG (K := K)) (pv 3) (pv 5) (fun _ _ => rfl)) (pe_tupF (pa_cons pe_str (pa_cons pe_str pa_nil)))))
  (pss_one (ps_asg (C8.pe_c c_law_bent_wish hr (by decide) (by rfl) (pa_cons (pv 0) (pa_cons (pv 1) (pa_cons (pv 6) pa_nil)))) (pg_sub (pv 3) (pv 5) set_list))))) pss_nil)))
  (pss_one (ps_ret (C8.pe_c c_law_pick hr (by decide) (by rfl) (pa_cons (pv 0) (pa_cons (pe_lst (pa_cons (pe_tupleF (K := K) (by rfl) T.b_tuple (pv 3)) (pa_cons (pe_tupleF (K := K) (by rfl) T.b_tuple (pv 3)) (pa_cons (pe_tupleF (K := K) (by rfl) T.b_tuple (pv 3)) (pa_cons (pv 3) (pa_cons pe_non (pa_cons pe_str (pa_cons pe_int (pa_cons pe_bl (pa_cons pe_dnewK pa_nil)))))))))) pa_nil))))))), ?_⟩
    obtain ⟨t0, r0, eP, _⟩ := id pen
    have pNo : ∀ a, H a = none → a ≠ p := fun a ha z => by rw [z, eP] at ha; cases ha
    have nn : ∀ a, N a → N a ∨ H a = none := fun a h => .inl h
    have np2 : ∀ a, (N a ∨ H a = none) → a ≠ p := fun a h => h.elim (np a) (pNo a)
    have fr : ∀ {a : Addr} {Z : Hp}, Kp p H Z → a ≠ p → Z a = none → H a = none := fun {a Z} k ne e => by
      cases hh : H a with
      | none => rfl
      | some o =>
        have := k _ _ ne hh
        rw [e] at this
        cases this
    obtain ⟨wl, we⟩ := wi_inv wi
    refine ⟨fun σ Z => ∃ (fl : Addr) (fvs : List V), σ = [some (.ref p), some (.ref h), some (.ref u), some (.ref fl), none, none, none] ∧ Same H Z ∧ H fl = none ∧ Z fl = some (.lst fvs) ∧ ThAll (fun a => (N a ∨ H a = none) ∧ a ≠ fl) Z fvs ds, ?_, ?_⟩
    · obtain ⟨fvs, f, qs⟩ := id tp
      refine ⟨.ref u, rfl, u, rfl, .inl ⟨_, .inr f.sqT, fun fl nfl => ?_⟩⟩
      exact ⟨fl, fvs, rfl, same_new nfl, nfl, upd_same, ((qs.fresh nfl).same (same_new nfl)).move (fun a h => ⟨.inl h.1, h.2⟩) (fun _ _ e => e) fun _ _ _ e => e⟩
    rintro σ1 G1 ⟨fl, fvs, rfl, s1, nfl, ef, tf⟩
    have flp := pNo _ nfl
    have nE : ∀ a, ((N a ∨ H a = none) ∧ a ≠ fl) → a ≠ p := fun a h => np2 a h.1
    have kp1 : Kp p H G1 := fun a o _ e => s1 a o e
    refine ⟨fun σ Z => ∃ (d4 d5 d6 : Option V) (fvs : List V) (fds : List PyData), σ = [some (.ref p), some (.ref h), some (.ref u), some (.ref fl), d4, d5, d6] ∧ Kp p H Z ∧ Pen K Z p qc (n + 25) ∧ Z fl = some (.lst fvs) ∧ ThAll (fun a => (N a ∨ H a = none) ∧ a ≠ fl) Z fvs fds ∧ fds.length = ds.length ∧ ∀ z ∈ fds, Wi [k + 2, 1] z, ?_, ?_⟩
    · refine ⟨.ref p, rfl, p, qc, 2, n, rfl, pen.same s1, by omega, by decide, by decide, fun dd Z d0 d2 kz pz => ?_⟩
      refine ⟨_, rfl, by omega, by omega, ?_⟩
      have nt2 : (1 + dd).toNat ≤ 2 := by omega
      generalize (1 + dd).toNat = nt at nt2
      refine for_range (fun j σ Z => ∃ (d4 d5 d6 : Option V) (fvs : List V) (fds : List PyData), σ = [some (.ref p), some (.ref h), some (.ref u), some (.ref fl), d4, d5, d6] ∧ Kp p H Z ∧ Pen K Z p qc (n + 1 + 12 * j) ∧ Z fl = some (.lst fvs) ∧ ThAll (fun a => (N a ∨ H a = none) ∧ a ≠ fl) Z fvs fds ∧ fds.length = ds.length ∧ ∀ z ∈ fds, Wi [k + j, 1] z)
        ⟨_, _, _, fvs, ds, rfl, kp1.trans kz, pz, kz _ _ flp ef, tf.kp (pen.same s1) nE kz, rfl, we⟩ (fun j σ Z hj pv => ?_) (fun σ Z pv => ?_)
      · obtain ⟨d4, d5, d6, fvs, fds, rfl, kZ, pZ, eZ, tZ, lZ, wZ⟩ := pv
        have hj2 : j < 2 := by omega
        refine ⟨.ref fl, rfl, by show 0 ≤ sizeLine; decide, fun el nel => ?_⟩
        have a0 := same_new nel (o := .lst [])
        have eF0 := a0 _ _ eZ
        have eE : (upd Z el (.lst [])) el = some (.lst []) := upd_same
        have k0 := kZ.same a0
        have p0 := pZ.same a0
        have t0' := tZ.same a0
        generalize upd Z el (.lst []) = Z0 at a0 eF0 eE k0 p0 t0'
        refine ⟨fl, el, fvs, rfl, rfl, .inl (.inl eF0), .inl (.inl eE), _, rfl, ?_⟩
        have ll := t0'.length
        by_cases c0 : fvs.length = 0
        · rw [show (!(fvs.length == 0)) = false from by rw [c0]; rfl]
          exact iteF ⟨_, _, _, fvs, fds, rfl, k0, p0.le (by omega), eF0, t0', lZ, fun z hz => wi_part (wZ z hz) (by omega)⟩
        rw [show (!(fvs.length == 0)) = true from by rw [beq_eq_false_iff_ne.mpr c0]; rfl]
        refine iteT ?_
        refine ⟨fun σ Y => ∃ at_ : Nat, σ = [some (.ref p), some (.ref h), some (.ref u), some (.ref fl), some (.int (0 + j)), some (.int (at_ : Nat)), d6] ∧ at_ < fvs.length ∧ Kp p Z0 Y ∧ Pen K Y p qc (n + 2 + 12 * j), ?_, ?_⟩
        · refine ⟨.ref p, rfl, .ref fl, rfl, .inl ⟨_, .inl (.inl (.inl eF0)), p, qc, _, n + 1 + 12 * j, rfl, p0, by omega, by omega, by omega, fun kk Y q0 q1 kp' pen' => ?_⟩⟩
          obtain ⟨at_, rfl⟩ : ∃ k : Nat, kk = k := ⟨kk.toNat, by omega⟩
          exact ⟨at_, rfl, by omega, kp', pen'.le (by omega)⟩
        rintro σ4 G4 ⟨at_, rfl, atl, k4, pen4⟩
        have ef4 := k4 _ _ flp eF0
        have t4 := t0'.kp p0 nE k4
        have kH4 := k0.trans k4
        obtain ⟨wv, hv⟩ : ∃ wv, fvs[at_]? = some wv := ⟨_, List.getElem?_eq_getElem atl⟩
        obtain ⟨wd, hwd, tw⟩ := t4.at hv
        have ww := wZ wd (List.mem_of_getElem? hwd)
        have gt : ∀ {Y : Hp} {Q2 : VK}, Same G4 Y → Q2 wv Y → rIx K (.ref fl) (.int (at_ : Nat)) Y Q2 := fun s q => .inl ⟨fl, _, _, wv, rfl, rfl, .inl (.inl (s _ _ ef4)), atI_in (j := at_) rfl hv, q⟩
        have dw : ∀ {Y : Hp} {ux : Addr} {ox : Obj}, Same G4 Y → Y ux = none → ox.dict = none → Same G4 (upd Y ux (.frz ox (.tup [.str (Str.ofString "open"), .str (Str.ofString "x")]))) ∧ Tp (fun a => (N a ∨ H a = none) ∧ a ≠ fl) (upd Y ux (.frz ox (.tup [.str (Str.ofString "open"), .str (Str.ofString "x")]))) ux [.str (Str.ofString "open"), .str (Str.ofString "x")] ∧ Wi [k + j, 1] (.tuple [.str (Str.ofString "open"), .str (Str.ofString "x")]) := fun {Y ux ox} s n o => by
          refine ⟨s.trans (same_new n), ⟨_, ⟨ox, upd_same, o⟩, .cons (.str (by decide +kernel)) (.cons (.str (by decide +kernel)) .nil)⟩, wi_tup (by show 2 ≤ _; omega) fun z hz => ?_⟩
          simp only [List.mem_cons, List.not_mem_nil, or_false] at hz
          rcases hz with rfl | rfl <;> exact Atm.wi (atm_str (tx_of (by decide +kernel) (by decide +kernel)))
        refine ⟨fun σ Y => ∃ (uw : Addr) (wds : List PyData), σ = [some (.ref p), some (.ref h), some (.ref u), some (.ref fl), some (.int (0 + j)), some (.int (at_ : Nat)), some (.ref uw)] ∧ Same G4 Y ∧ Tp (fun a => (N a ∨ H a = none) ∧ a ≠ fl) Y uw wds ∧ Wi [k + j, 1] (.tuple wds) ∧ 0 < wds.length, ?_, ?_⟩
        · refine ⟨.ref fl, rfl, .int (at_ : Nat), rfl, gt (fun _ _ e => e) (tw.isT (.inl rfl) ⟨_, truBo, ?_⟩)⟩
          cases h1 : isTy "tuple" wd with
          | false =>
            refine iteF (iteF ⟨by show 2 ≤ sizeLine; decide, fun ux ox mx nox => ?_⟩)
            obtain ⟨x1, x2, x3⟩ := dw (fun _ _ e => e) mx nox
            exact ⟨ux, _, rfl, x1, x2, x3, by decide⟩
          | true =>
          refine iteT ?_
          cases tw with
          | @tup uw wvs wds f qs =>
            refine ⟨.ref fl, rfl, .int (at_ : Nat), rfl, gt (fun _ _ e => e) ⟨by show 0 ≤ sizeLine; decide, fun z nz => ?_⟩⟩
            have s5 := same_new nz (o := .tup [])
            refine ⟨uw, z, wvs, rfl, rfl, (f.same s5).sqT, .inl (.inl upd_same), _, rfl, ?_⟩
            rw [qs.length]
            by_cases c6 : wds.length = 0
            · rw [show (!(wds.length == 0)) = false from by rw [c6]; rfl]
              refine iteF ⟨by show 2 ≤ sizeLine; decide, fun ux ox mx nox => ?_⟩
              obtain ⟨x1, x2, x3⟩ := dw s5 mx nox
              exact ⟨ux, _, rfl, x1, x2, x3, by decide⟩
            rw [show (!(wds.length == 0)) = true from by rw [beq_eq_false_iff_ne.mpr c6]; rfl]
            exact iteT ⟨.ref fl, rfl, .int (at_ : Nat), rfl, gt s5 ⟨uw, wds, rfl, s5, ⟨wvs, f.same s5, qs.same s5⟩, ww, by omega⟩⟩
          | _ => cases h1
        rintro σ5 G5 ⟨uw, wds, rfl, s5, tpw, wiw, wpos⟩
        have pen5 := pen4.same s5
        have kH5 := kH4.same s5
        have ef5 := s5 _ _ ef4
        have t5 := t4.same s5
        refine ⟨.ref p, rfl, .ref h, rfl, .ref uw, rfl, _, p, h, uw, wds, k + j, qc, n + 2 + 12 * j, sr, sd, ss, sw, x, rfl, pen5, by omega, ha.move (fun _ z => z) (fun a o n e => kH5 a o n e), ok, b1, b2, b3, b4, nE, tpw, wiw, wpos, by omega, by omega, fun v' d' H' kp' pen' th' wi' => ?_⟩
        have ef6 := kp' _ _ flp ef5
        obtain ⟨_, _, g5, _⟩ := id pen5
        have th6 : Th (fun a => (N a ∨ H a = none) ∧ a ≠ fl) H' v' d' := th'.wider fun a ha' => by
          rcases ha' with ha' | ha'
          · exact ha'
          · have ap : a ≠ p := fun z => by rw [z, g5] at ha'; cases ha'
            exact ⟨.inr (fr kH5 ap ha'), fun z => by rw [z, ef5] at ha'; cases ha'⟩
        have t6 := t5.kp pen5 nE kp'
        refine ⟨.ref fl, rfl, .int (at_ : Nat), rfl, fl, fvs, _, at_, rfl, rfl, ef6, ixN_nat atl, ?_⟩
        refine ⟨_, _, _, fvs.set at_ v', fds.set at_ d', rfl, fun a o ne e => ?_, (pen'.wr pen nfl).le (by omega), upd_same, (ThAll.set th6 at_ t6).mut ef6 fun a h => h.2, by rw [List.length_set, lZ], fun z hz => ?_⟩
        · rw [upd_ne (ne_of_none e nfl)]
          exact kp' a o ne (kH5 a o ne e)
        · rcases List.mem_or_eq_of_mem_set hz with mm | rfl
          · exact wi_part (wZ z mm) (by omega)
          · exact wi_part wi' (by omega)
      · obtain ⟨d4, d5, d6, fvs, fds, rfl, kZ, pZ, eZ, tZ, lZ, wZ⟩ := pv
        exact ⟨_, _, _, fvs, fds, rfl, kZ, pZ.le (by omega), eZ, tZ, lZ, fun z hz => wi_part (wZ z hz) (by omega)⟩
    rintro σ2 G2 ⟨d4, d5, d6, fv2, fds, rfl, k2', pen2, ef2, tf2, lf2, wf2⟩
    have wide : ∀ a, ((N a ∨ H a = none) ∧ a ≠ fl) → (N a ∨ H a = none) := fun a h => h.1
    refine ⟨.ref p, rfl, .ref fl, rfl, fl, _, rfl, .inl (.inl ef2), fun u1 o1 m1' no1 => ?_⟩
    have a1 := same_new m1' (o := .frz o1 (.tup fv2))
    have f1 : FT (upd G2 u1 (.frz o1 (.tup fv2))) u1 fv2 := ⟨o1, upd_same, no1⟩
    generalize upd G2 u1 (.frz o1 (.tup fv2)) = A1 at a1 f1
    refine ⟨.ref fl, rfl, fl, _, rfl, .inl (.inl (a1 _ _ ef2)), fun u2 o2 m2' no2 => ?_⟩
    have a2 := same_new m2' (o := .frz o2 (.tup fv2))
    have f2 : FT (upd A1 u2 (.frz o2 (.tup fv2))) u2 fv2 := ⟨o2, upd_same, no2⟩
    generalize upd A1 u2 (.frz o2 (.tup fv2)) = A2 at a2 f2
    refine ⟨.ref fl, rfl, fl, _, rfl, .inl (.inl ((a1.trans a2) _ _ ef2)), fun u3 o3 m3' no3 => ?_⟩
    have a3 := same_new m3' (o := .frz o3 (.tup fv2))
    have f3 : FT (upd A2 u3 (.frz o3 (.tup fv2))) u3 fv2 := ⟨o3, upd_same, no3⟩
    generalize upd A2 u3 (.frz o3 (.tup fv2)) = A3 at a3 f3
    have b3' := (a1.trans a2).trans a3
    refine ⟨.ref fl, rfl, fun ud md => ?_⟩
    have hud := fr (k2'.same b3') ((pen2.same b3').off md) md
    have a4 := same_new md (o := .dK [])
    have ed : (upd A3 ud (.dK [])) ud = some (.dK []) := upd_same
    generalize upd A3 ud (.dK []) = A4 at a4 ed
    refine ⟨by show 9 ≤ sizeLine; decide, fun l6 n6 => ?_⟩
    generalize hws : [V.ref u1, .ref u2, .ref u3, .ref fl, .non, .str (Str.ofString "at"), .int 7, .bl true, .ref ud] = ws
    have a6 := same_new n6 (o := .lst ws)
    have g6 : (upd A4 l6 (.lst ws)) l6 = some (.lst ws) := upd_same
    have l6p := (pen2.same (b3'.trans a4)).off n6
    have wl9 : ws.length = 9 := by rw [← hws]; rfl
    generalize upd A4 l6 (.lst ws) = A6 at a6 g6
    have b6 := (b3'.trans a4).trans a6
    have penA := pen2.same b6
    refine ⟨p, .ref l6, qc, n + 25, ws, rfl, penA, by omega, .inl ⟨l6, rfl, l6p, .inl (.inl (.inl g6))⟩, by omega, by omega, fun v Z mv kpz penZ => ?_⟩
    have tcW : ThAll (fun a => N a ∨ H a = none) A6 fv2 fds := (tf2.same b6).move wide (fun _ _ e => e) fun _ _ _ e => e
    obtain ⟨d8, th8, wi8⟩ : ∃ d, Th (fun a => N a ∨ H a = none) A6 v d ∧ Wi [m, k + 2, 1] d := by
      subst hws
      simp only [List.mem_cons, List.not_mem_nil, or_false] at mv
      rcases mv with rfl | rfl | rfl | rfl | rfl | rfl | rfl | rfl | rfl
      · exact ⟨_, .tup (f1.same (((a2.trans a3).trans a4).trans a6)) tcW, wi_tup (by omega) wf2⟩
      · exact ⟨_, .tup (f2.same ((a3.trans a4).trans a6)) tcW, wi_tup (by omega) wf2⟩
      · exact ⟨_, .tup (f3.same (a4.trans a6)) tcW, wi_tup (by omega) wf2⟩
      · exact ⟨_, .lst (.inr nfl) (b6 _ _ ef2) tcW, wi_lst (by omega) wf2⟩
      · exact ⟨_, .non, Atm.wi atm_non⟩
      · exact ⟨_, .str (by decide +kernel), Atm.wi (atm_str (tx_of (by decide +kernel) (by decide +kernel)))⟩
      · exact ⟨_, .int _, Atm.wi (atm_int (by decide))⟩
      · exact ⟨_, .bl _, Atm.wi (atm_bl _)⟩
      · exact ⟨_, .dct (.inr hud) (a6 _ _ ed), Atm.wi atm_dct⟩
    exact q v d8 Z ((k2'.same b6).trans kpz) (penZ.le (by omega)) (Th.kp th8 penA np2 kpz) wi8
end
end Wd

set_option Elab.async false
set_option linter.all false
set_option maxRecDepth 100000
set_option maxHeartbeats 4000000
/-! Wishes and goals, as data. -/
namespace Wd
open PySem PySem.Spec PyProof.Rows L2
inductive WishH where
  | opn (d : Str)
  | atw (n r : Str)
  | bears (r : Str) (i : Int)
  | put (w s q : Str)
def WishH.data : WishH → PyData
  | .opn d => .tuple [.str (Str.ofString "open"), .str d]
  | .atw n r => .tuple [.str (Str.ofString "at"), .str n, .str r]
  | .bears r i => .tuple [.str (Str.ofString "bears"), .str r, .int i]
  | .put w s q => .tuple [.str w, .str s, .str q]
def goalD (ws : List WishH) : PyData := .tuple (ws.map WishH.data)
/-- a wish of the hall's own names -/
inductive WishOk (x : HallH) : WishH → Prop
  | opn {d : Str} (h : NameOk d) : WishOk x (.opn d)
  | atw {n r : Str} (h : n ∈ x.walkers.map WalkH.name) (hr : NameOk r) : WishOk x (.atw n r)
  | bears {r : Str} {i : Int} (h : r ∈ x.rooms) : WishOk x (.bears r i)
  | put {w s q : Str} (hw : w = Str.ofString "lies" ∨ w = Str.ofString "held") (h : s ∈ x.stones.map Prod.fst) (hq : NameOk q) : WishOk x (.put w s q)
def wishB (x : HallH) (rs ps : List Str) : WishH → Bool
  | .opn d => decide (d ∈ openL x rs ps)
  | .atw n r => decide (whereH x rs n = r)
  | .bears r i => decide (i ≤ borneH x rs ps none r)
  | .put _ s q => decide (placeOf x ps s = some q)
theorem dq_tup_inv {N : Addr → Prop} {K : PySem.W.Frag} {H : Hp} {v : V} {ds : List PyData} (h : Dq N K H v (.tuple ds)) : ∃ a vs, v = .ref a ∧ SqT K H a vs ∧ DqAll N K H vs ds := by
  cases h with
  | tup n e q => exact ⟨_, _, rfl, e, q⟩
theorem wish_opn {N : Addr → Prop} {K : PySem.W.Frag} {H : Hp} {v : V} {d : Str} (h : Dq N K H v (WishH.opn d).data) : ∃ a, v = .ref a ∧ SqT K H a [.str (Str.ofString "open"), .str d] := by
  obtain ⟨a, vs, rfl, e, q⟩ := dq_tup_inv h
  cases q with
  | cons q1 q => cases q with
    | cons q2 q =>
      cases q
      cases q1
      cases q2
      exact ⟨a, rfl, e⟩
theorem wish_three {N : Addr → Prop} {K : PySem.W.Frag} {H : Hp} {v : V} {a b c : Str} (h : Dq N K H v (.tuple [.str a, .str b, .str c])) : ∃ t, v = .ref t ∧ SqT K H t [.str a, .str b, .str c] := by
  obtain ⟨t, vs, rfl, e, q⟩ := dq_tup_inv h
  cases q with
  | cons q1 q => cases q with
    | cons q2 q => cases q with
      | cons q3 q =>
        cases q
        cases q1
        cases q2
        cases q3
        exact ⟨t, rfl, e⟩
theorem wish_bears {N : Addr → Prop} {K : PySem.W.Frag} {H : Hp} {v : V} {a b : Str} {i : Int} (h : Dq N K H v (.tuple [.str a, .str b, .int i])) : ∃ t, v = .ref t ∧ SqT K H t [.str a, .str b, .int i] := by
  obtain ⟨t, vs, rfl, e, q⟩ := dq_tup_inv h
  cases q with
  | cons q1 q => cases q with
    | cons q2 q => cases q with
      | cons q3 q =>
        cases q
        cases q1
        cases q2
        cases q3
        exact ⟨t, rfl, e⟩
theorem vstr_dec (a b : Str) : decide (V.str a = V.str b) = decide (a = b) := decide_eq_decide.mpr ⟨fun h => by injection h, fun h => by rw [h]⟩
theorem open_mem {x : HallH} {rs ps : List Str} {d : DoorH} (nd : (x.doors.map DoorH.name).Nodup) (h : d ∈ x.doors) : decide (d.name ∈ openL x rs ps) = openB (borneH x rs ps none) d := by
  rw [Bool.eq_iff_iff, decide_eq_true_iff]
  unfold openL
  rw [List.mem_map]
  constructor
  · rintro ⟨e, he, en⟩
    obtain ⟨h1, h2⟩ := List.mem_filter.mp he
    have f1 := find_name nd h
    have f2 := find_name nd h1
    rw [en] at f2
    rw [f1] at f2
    rw [Option.some.inj f2]
    exact h2
  · exact fun ho => ⟨d, List.mem_filter.mpr ⟨h, ho⟩, rfl⟩
theorem off_any {ns : List Str} {r : Str} (h : r ∉ ns) : ns.any (fun y => decide (y = r)) = false := List.any_eq_false.mpr fun y hy e => h (by rw [← of_decide_eq_true e]; exact hy)
theorem tOnly_wish (g : WishH) : tOnly g.data = true := by cases g <;> rfl
theorem tOnly_goal (gs : List WishH) : tOnly (goalD gs) = true := by
  unfold goalD
  rw [tOnly, tOnly_map tOnly_wish]
theorem wish_lay {sr sd ss sw : Nat} {x : HallH} {g : WishH} (ok : HallOk sr sd ss sw x) (h : WishOk x g) : g.data.canLay0 = true := by
  have nk := ok.n2
  unfold HallH.names at nk
  have so : ∀ {z : Str}, NameOk z → PyData.strOk z = true := fun h => name_ok h
  cases h with
  | opn h => simp only [WishH.data, PyData.canLay0, PyData.canLayAll0, so h, Bool.and_self, Bool.and_true]; decide +kernel
  | atw h hr => simp only [WishH.data, PyData.canLay0, PyData.canLayAll0, so (nk _ (List.mem_append_right _ (List.mem_append_left _ h))), so hr, Bool.and_self, Bool.and_true]; decide +kernel
  | bears h => simp only [WishH.data, PyData.canLay0, PyData.canLayAll0, so (nk _ (List.mem_append_left _ h)), Bool.and_self, Bool.and_true]; decide +kernel
  | put hw h hq =>
    rcases hw with rfl | rfl
    · simp only [WishH.data, PyData.canLay0, PyData.canLayAll0, so (nk _ (List.mem_append_right _ (List.mem_append_right _ (List.mem_append_left _ h)))), so hq, Bool.and_self, Bool.and_true]; decide +kernel
    · simp only [WishH.data, PyData.canLay0, PyData.canLayAll0, so (nk _ (List.mem_append_right _ (List.mem_append_right _ (List.mem_append_left _ h)))), so hq, Bool.and_self, Bool.and_true]; decide +kernel
theorem wish_depth (g : WishH) : g.data.depth = 1 := by
  cases g <;> simp [WishH.data, PyData.depth, PyData.depthAll]
theorem wishes_lay {sr sd ss sw : Nat} {x : HallH} (ok : HallOk sr sd ss sw x) : ∀ {gs : List WishH}, (∀ g ∈ gs, WishOk x g) → PyData.canLayAll0 (gs.map WishH.data) = true ∧ PyData.depthAll (gs.map WishH.data) ≤ 1
  | [], _ => ⟨rfl, by simp [PyData.depthAll]⟩
  | g :: gs, h => by
    obtain ⟨h1, h2⟩ := wishes_lay ok (gs := gs) fun z hz => h z (List.mem_cons_of_mem _ hz)
    have h3 := wish_depth g
    have h4 := wish_lay ok (h g List.mem_cons_self)
    rw [List.map_cons]
    constructor
    · simp only [PyData.canLayAll0, h1, h4, Bool.and_true]
    · simp only [PyData.depthAll]
      omega
theorem wishes_shaped {sr sd ss sw : Nat} {x : HallH} (ok : HallOk sr sd ss sw x) {gs : List WishH} (h : ∀ g ∈ gs, WishOk x g) : SeqAt.shaped (.list (gs.map WishH.data)) = true := shaped_list (wishes_lay ok h).1 (by have := (wishes_lay ok h).2; omega)
theorem noDict_wishes : ∀ gs : List WishH, PyData.hasDictAll (gs.map WishH.data) = false
  | [] => rfl
  | g :: gs => by
    rw [List.map_cons]
    have e : g.data.hasDict = false := by cases g <;> rfl
    simp only [PyData.hasDictAll, noDict_wishes gs, e, Bool.or_false]
theorem none_off (f : WishH → Bool) (gs : List WishH) : (gs.filter fun g => !f g).isEmpty = gs.all f := by
  induction gs with
  | nil => rfl
  | cons g gs ih =>
    cases h : f g with
    | true =>
      rw [List.filter_cons_of_neg (by simp [h]), ih, List.all_cons, h, Bool.true_and]
    | false =>
      rw [List.filter_cons_of_pos (by simp [h]), List.all_cons, h]
      rfl
theorem eqv_nilT (ds : List PyData) : PyData.eqv (.list ds) (.list []) = ds.isEmpty := by
  cases ds with
  | nil => simp [PyData.eqv, PyData.eqvAll]
  | cons a b => simp [PyData.eqv, PyData.eqvAll]
theorem DqAll.takeT {N : Addr → Prop} {K : PySem.W.Frag} {H : Hp} : ∀ {k : Nat} {vs : List V} {ds : List PyData}, DqAll N K H vs ds → DqAll N K H (vs.take k) (ds.take k)
  | 0, _, _, _ => by rw [List.take_zero, List.take_zero]; exact .nil
  | k + 1, _, _, .nil => .nil
  | k + 1, _, _, .cons a r => .cons a (DqAll.takeT r)
theorem DqAll.dropT {N : Addr → Prop} {K : PySem.W.Frag} {H : Hp} : ∀ {k : Nat} {vs : List V} {ds : List PyData}, DqAll N K H vs ds → DqAll N K H (vs.drop k) (ds.drop k)
  | 0, _, _, h => h
  | k + 1, _, _, .nil => .nil
  | k + 1, _, _, .cons a r => DqAll.dropT (k := k) r
end Wd

set_option Elab.async false
set_option linter.all false
set_option maxRecDepth 100000
set_option maxHeartbeats 4000000
namespace Wd
open PySem PySem.Spec PyProof.Rows L2
abbrev s__law_wish : Stmt := topS 29
theorem sc__law_wish : FnScope ["pen", "hall", "room", "folk", "some", "stone", "one"] ["pen", "hall"] (C8.fnScope s__law_wish) := ⟨rfl, rfl, rfl, by decide +kernel, rfl, by decide +kernel, by decide +kernel⟩
section
variable {P : Program} {w : World} {K : PySem.W.Frag} {mg : Str → Option Value} {base : Heap}
def WishF (x : HallH) (g : WishH) : Prop := WishOk x g ∧ Wi [3, 1] g.data
theorem wi3 {a b : Str} {d : PyData} (ha : TxtD a) (hb : TxtD b) (hd : Atm d) : Wi [3, 1] (.tuple [.str a, .str b, d]) := wi_tup (Nat.le_refl 3) fun z hz => by
  simp only [List.mem_cons, List.not_mem_nil, or_false] at hz
  rcases hz with rfl | rfl | rfl
  · exact Atm.wi (atm_str ha)
  · exact Atm.wi (atm_str hb)
  · exact Atm.wi hd
theorem wfAt {x : HallH} {n r : Str} (h : n ∈ x.walkers.map WalkH.name) (hn : NameOk n) (hr : NameOk r) : WishF x (.atw n r) := ⟨.atw h hr, wi3 (tx_of (by decide +kernel) (by decide +kernel)) (txt_name hn) (atm_str (txt_name hr))⟩
theorem wfBears {x : HallH} {r : Str} {i : Int} (h : r ∈ x.rooms) (hr : NameOk r) (hi : i.natAbs < 10 ^ 39) : WishF x (.bears r i) := ⟨.bears h, wi3 (tx_of (by decide +kernel) (by decide +kernel)) (txt_name hr) (atm_int hi)⟩
theorem wfOpn {x : HallH} {d : Str} (h : NameOk d) : WishF x (.opn d) := ⟨.opn h, wi_tup (by show 2 ≤ 3; decide) fun z hz => by
  simp only [List.mem_cons, List.not_mem_nil, or_false] at hz
  rcases hz with rfl | rfl
  · exact Atm.wi (atm_str (tx_of (by decide +kernel) (by decide +kernel)))
  · exact Atm.wi (atm_str (txt_name h))⟩
theorem wfPut {x : HallH} {w s q : Str} (hw : w = Str.ofString "lies" ∨ w = Str.ofString "held") (h : s ∈ x.stones.map Prod.fst) (hs : NameOk s) (hq : NameOk q) : WishF x (.put w s q) := ⟨.put hw h hq, wi3 (by rcases hw with rfl | rfl <;> exact tx_of (by decide +kernel) (by decide +kernel)) (txt_name hs) (atm_str (txt_name hq))⟩
theorem Kp.mut {p l : Addr} {H H' : Hp} {o : HO} (k : Kp p H H') (n : H l = none) : Kp p H (upd H' l o) := fun b u nb e => by rw [upd_ne (fun z => by rw [z, n] at e; cases e)]; exact k b u nb e
/-- the wishes told so far, in a list of their own -/
structure WshF (K : PySem.W.Frag) (H0 : Hp) (p sl lf : Addr) (qc : Addr × List Int) (n b : Nat) (x : HallH) (Z : Hp) : Prop where
  kp : Kp p H0 Z
  pen : Pen K Z p qc n
  fo : Z lf = some (.lst ((x.walkers.map WalkH.name).map V.str))
  nl : H0 sl = none
  ws : ∃ (ws : List V) (gs : List WishH), Z sl = some (.lst ws) ∧ ThAll (fun _ => False) Z ws (gs.map WishH.data) ∧ (∀ g ∈ gs, WishF x g) ∧ ws.length ≤ b ∧ 0 < ws.length
theorem WshF.kpp {K : PySem.W.Frag} {H0 : Hp} {p sl lf : Addr} {qc : Addr × List Int} {n n' b : Nat} {x : HallH} {Z Z' : Hp} (a : WshF K H0 p sl lf qc n b x Z) (k : Kp p Z Z') (pen : Pen K Z' p qc n') : WshF K H0 p sl lf qc n' b x Z' := by
  obtain ⟨t', r', e, _⟩ := id a.pen
  have ne : ∀ {l : Addr} {xs : List V}, Z l = some (.lst xs) → l ≠ p := fun h z => by rw [z, e] at h; cases h
  obtain ⟨ws, gs, h1, h2, h3⟩ := a.ws
  exact ⟨a.kp.trans k, pen, k _ _ (ne a.fo) a.fo, a.nl, ws, gs, k _ _ (ne h1) h1, h2.kp a.pen (fun _ z => z.elim) k, h3⟩
theorem WshF.same {K : PySem.W.Frag} {H0 : Hp} {p sl lf : Addr} {qc : Addr × List Int} {n b : Nat} {x : HallH} {Z Z' : Hp} (a : WshF K H0 p sl lf qc n b x Z) (k : Same Z Z') : WshF K H0 p sl lf qc n b x Z' := by
  obtain ⟨ws, gs, h1, h2, h3⟩ := a.ws
  exact ⟨a.kp.same k, a.pen.same k, k _ _ a.fo, a.nl, ws, gs, k _ _ h1, h2.same k, h3⟩
theorem WshF.add {K : PySem.W.Frag} {H0 : Hp} {p sl lf : Addr} {qc : Addr × List Int} {n b n0 : Nat} {x : HallH} {Z : Hp} (a : WshF K H0 p sl lf qc n b x Z) (pen0 : Pen K H0 p qc n0) {vs : List V} {gs : List WishH} (dq : ThAll (fun _ => False) Z vs (gs.map WishH.data)) (ok : ∀ g ∈ gs, WishF x g) (ne : lf ≠ sl) {ws : List V} (e : Z sl = some (.lst ws)) : WshF K H0 p sl lf qc n (b + vs.length) x (upd Z sl (.lst (ws ++ vs))) := by
  obtain ⟨ws', gs', h1, h2, h3, h4, h5⟩ := a.ws
  have ew : ws' = ws := by rw [e] at h1; injection h1 with h1; injection h1 with h1; exact h1.symm
  subst ew
  refine ⟨a.kp.mut a.nl, a.pen.wr pen0 a.nl, by rw [upd_ne ne]; exact a.fo, a.nl, ws' ++ vs, gs' ++ gs, upd_same, ?_, fun g hg => ?_, by rw [List.length_append]; omega, by rw [List.length_append]; omega⟩
  · rw [List.map_append]
    exact (h2.append dq).mut e fun _ z => z.elim
  · rcases List.mem_append.mp hg with hg | hg
    · exact h3 g hg
    · exact ok g hg
theorem th_three {Z : Hp} {u : Addr} {o : Obj} {a b c : Str} (e : Z u = some (.frz o (.tup [.str a, .str b, .str c]))) (no : o.dict = none) (k1 : PyData.strOk a = true) (k2 : PyData.strOk b = true) (k3 : PyData.strOk c = true) : Th (fun _ => False) Z (.ref u) (.tuple [.str a, .str b, .str c]) := .tup ⟨o, e, no⟩ (.cons (.str k1) (.cons (.str k2) (.cons (.str k3) .nil)))
def spWishF (K : PySem.W.Frag) : Sp := fun vs H Q _ => ∃ (p h : Addr) (qc : Addr × List Int) (n sr sd ss sw : Nat) (x : HallH), vs = [.ref p, .ref h] ∧ Pen K H p qc n ∧ n < 900000 ∧ HallAt (· ≠ p) K H h x ∧ HallOk sr sd ss sw x ∧ sr ≤ 60 ∧ sd ≤ 60 ∧ ss ≤ 60 ∧ sw ≤ 60 ∧
  ∀ v g H', Kp p H H' → Pen K H' p qc (n + 12) → Th (fun _ => False) H' v g.data → WishF x g → Q v H'
theorem c_wishF {c : CA} (T : Txt P w K mg base c) (c_law_draw : C8.Cal P w K mg base 1 "_law_draw" (spDraw K) []) (c_law_pick : C8.Cal P w K mg base 2 "_law_pick" (spPick K) []) {f : Addr} {fd : FuncData} (F : C8.Def K mg "_law_wish" s__law_wish f fd) (b : Binds K fd ["pen", "hall"] []) : C8.Cal P w K mg base 3 "_law_wish" (spWishF K) [] := by
  refine C8.cal0 F b .nil sc__law_wish (fun vs H Q E h => ?_) (fun cdv A outer s H vs Q E hr h => ?_)
  · obtain ⟨p, h, qc, n, sr, sd, ss, sw, x, rfl, _⟩ := h
    rfl
  · obtain ⟨p, h, qc, n, sr, sd, ss, sw, x, rfl, pen, hn, ha, ok, b1, b2, b3, b4, q⟩ := h
    have hu := hu_of hr
    have hu6 := hu64 hr
    refine ⟨_, (C8.pss_cut (ps_par (i := 2) (j := 3) rfl sc__law_wish.nd rfl rfl (by decide) rfl rfl (pa_cons (C8.pe_c c_law_pick hr (by decide) (by rfl) (pa_cons (pv 0) (pa_cons (pe_dget hu (pv 1) pe_str (fun _ _ => rfl)) pa_nil))) (pa_cons (pe_lc (own := [("one", 6)]) rfl sc__law_wish.nd (pi_listK (K := K) (pe_dget hu (pv 1) pe_str (fun _ _ => rfl))) (blkOk_by (by kernel_rfl)) (fun _ _ _ _ _ => (pg_name (i := 6) sc__law_wish.nd rfl (.inl rfl))) (fun _ _ _ _ _ => pts_nil)
      (fun _ _ _ _ _ => (pe_ix (ixG (K := K)) (pv 6) pe_int (fun _ _ => rfl)))) pa_nil)) rfl)
  (C8.pss_cut (ps_set (i := 4) sc__law_wish.nd rfl (.inl rfl) (pe_lst (pa_cons (pe_tupF (pa_cons pe_str (pa_cons (C8.pe_c c_law_pick hr (by decide) (by rfl) (pa_cons (pv 0) (pa_cons (pv 3) pa_nil))) (pa_cons (pv 2) pa_nil)))) (pa_cons (pe_tupF (pa_cons pe_str (pa_cons (C8.pe_c c_law_pick hr (by decide) (by rfl) (pa_cons (pv 0) (pa_cons (pv 3) pa_nil))) (pa_cons (pv 2) pa_nil)))) pa_nil))))
  (pss_cons (ps_expr (pe_bm PySem.F.plainAttrs_list PySem.F.slot_list_append PySem.F.type_list_append mt_append (pv 4) (pa_cons (pe_tupF (pa_cons pe_str (pa_cons (pv 2) (pa_cons (pe_ix (ixG (K := K)) (pe_lst (pa_cons pe_int (pa_cons pe_int (pa_cons pe_int (pa_cons pe_int (pa_cons pe_int pa_nil)))))) (C8.pe_c c_law_draw hr (by decide) (by rfl) (pa_cons (pv 0) (pa_cons pe_int pa_nil))) (fun _ _ => rfl)) pa_nil)))) pa_nil)))
  (pss_cons (ps_expr (pe_bm PySem.F.plainAttrs_list PySem.F.slot_list_append PySem.F.type_list_append mt_append (pv 4) (pa_cons (pe_tupF (pa_cons pe_str (pa_cons (C8.pe_c c_law_pick hr (by decide) (by rfl) (pa_cons (pv 0) (pa_cons (pe_op (op_addG (K := K)) (pe_callB (call_sortedD rfl) (by rfl) T.b_sorted bt_sorted (pa_cons (pe_dget hu (pv 1) pe_str (fun _ _ => rfl)) pa_nil)) (pe_lst (pa_cons pe_str pa_nil))) pa_nil))) pa_nil))) pa_nil)))
  (pss_cons (ps_for PassesOwn.never rfl (pi_listK (K := K) (pe_slice (sl_any (K := K)) (pe_callB (call_sortedD rfl) (by rfl) T.b_sorted bt_sorted (pa_cons (pe_dget hu (pv 1) pe_str (fun _ _ => rfl)) pa_nil)) po_none (po_some pe_int))) (pg_name (i := 5) sc__law_wish.nd rfl (.inl rfl))
    (pss_one (ps_expr (pe_bm PySem.F.plainAttrs_list PySem.F.slot_list_extend PySem.F.type_list_extend mt_extend (pv 4) (pa_cons (pe_lst (pa_cons (pe_tupF (pa_cons pe_str (pa_cons (pv 5) (pa_cons (pv 2) pa_nil)))) (pa_cons (pe_tupF (pa_cons pe_str (pa_cons (pv 5) (pa_cons (C8.pe_c c_law_pick hr (by decide) (by rfl) (pa_cons (pv 0) (pa_cons (pv 3) pa_nil))) pa_nil)))) pa_nil))) pa_nil)))))
  (pss_one (ps_ret (C8.pe_c c_law_pick hr (by decide) (by rfl) (pa_cons (pv 0) (pa_cons (pv 4) pa_nil)))))))))), ?_⟩
    obtain ⟨dA, st, wl, rA, dkv, wvs, n1, n2, n3, n4, n5, h1, h2, h3, h4, h5, h6, h7⟩ := id ha
    have nd := ok.n1
    have nk := ok.n2
    unfold HallH.names at nd nk
    have wl2 : x.walkers.length ≤ 60 := Nat.le_trans ok.w2 b4
    have sl2 : x.stones.length ≤ 60 := Nat.le_trans ok.s2 b3
    have dl2 : x.doors.length ≤ 60 := Nat.le_trans ok.d2 b2
    have rl2 : x.rooms.length ≤ 60 := Nat.le_trans ok.r2 b1
    have rl1 := ok.r1
    have wl1 := ok.w1
    have wvl : wvs.length = x.walkers.length := by rw [h6.length, List.length_map]
    have rnk : ∀ y ∈ x.rooms, NameOk y := fun y hy => nk y (List.mem_append_left _ hy)
    have wnk : ∀ y ∈ x.walkers.map WalkH.name, NameOk y := fun y hy => nk y (List.mem_append_right _ (List.mem_append_left _ hy))
    have snk : ∀ y ∈ x.stones.map Prod.fst, NameOk y := fun y hy => nk y (List.mem_append_right _ (List.mem_append_right _ (List.mem_append_left _ hy)))
    have dnk : ∀ y ∈ x.doors.map DoorH.name, NameOk y := fun y hy => nk y (List.mem_append_right _ (List.mem_append_right _ (List.mem_append_right _ hy)))
    have hallK : ∀ {Z : Hp}, Kp p H Z → HallAt (· ≠ p) K Z h x := fun k => by
      obtain ⟨t2, r2, eP2, _⟩ := id pen
      exact HallAt.extM eP2 (ExtM.kp k) ha
    -- room, folk
    refine ⟨fun σ Z => ∃ (r : Str) (lf : Addr), σ = [some (.ref p), some (.ref h), some (.str r), some (.ref lf), none, none, none] ∧ r ∈ x.rooms ∧ Kp p H Z ∧ Pen K Z p qc (n + 1) ∧ Z lf = some (.lst ((x.walkers.map WalkH.name).map V.str)), ?_, ?_⟩
    · refine ⟨.ref p, rfl, .ref h, rfl, h, .ref rA, rfl, DGet.k (k := .inr "rooms") h1, p, .ref rA, qc, n, _, rfl, pen, by omega, .inl ⟨rA, rfl, n5, .inl (.inl (.inl h7))⟩, by rw [List.length_map]; exact rl1, by rw [List.length_map]; omega, fun u Z hu2 kZ penZ => ?_⟩
      obtain ⟨r, hr, rfl⟩ := List.mem_map.mp hu2
      have h5' := kZ _ _ n4 h5
      refine ⟨.ref h, rfl, h, .ref wl, rfl, DGet.k (k := .inr "walkers") (kZ _ _ n1 h1), wl, rfl, ⟨_, .inl (.inl h5')⟩, fun l4 nl4 => ?_⟩
      have h6' : DqAll (· ≠ p) K Z wvs (x.walkers.map WalkH.data) := by
        obtain ⟨t2, r2, eP2, _⟩ := id pen
        exact DqAll.moveT (fun _ z => z) (fun b xs _ h => ExtM.sqT2 eP2 (ExtM.kp kZ) b xs h) _ _ (tOnly_map tOnly_walk _) h6
      refine lc_it (walk_list (a := wl) (xs := wvs)) (fun k Y => Same Z Y ∧ Y l4 = some (.lst (((x.walkers.take k).map WalkH.name).map V.str))) ⟨same_new nl4, upd_same⟩ (fun k Y _ pv => .inl (.inl (pv.1 _ _ h5'))) (fun k u Y Y' hk pv hy => ?_) (fun Y pv => ?_)
      · obtain ⟨sY, z1⟩ := pv
        obtain ⟨rfl, hv⟩ := hy
        obtain ⟨dd, hdd, dqv⟩ := h6'.get hv
        rw [List.getElem?_map] at hdd
        obtain ⟨zz, hzz, rfl⟩ := Option.map_eq_some_iff.mp hdd
        obtain ⟨t1, rfl, nt, et⟩ := walk_inv dqv
        refine ⟨rfl, yes_if ⟨.ref t1, by kernel_rfl, .inr (.inl ⟨t1, _, 0, _, rfl, rfl, same_sqT sY et, rfl, _, z1, by rw [List.length_map, List.length_map, List.length_take, sizeLine_eq]; omega, same_mut sY nl4, ?_⟩)⟩⟩
        rw [upd_same, take_snoc hzz, List.map_append, List.map_append]
        rfl
      obtain ⟨sY, z1⟩ := pv
      rw [wvl, List.take_length] at z1
      exact ⟨_, _, rfl, r, l4, rfl, hr, kZ.same sY, penZ.same sY, z1⟩
    rintro σ1 G1 ⟨r, lf, rfl, rin, k1, pen1, ef⟩
    have pl : ∀ {Z : Hp} {m : Nat} {l : Addr} {xs : List V}, Pen K Z p qc m → Z l = some (.lst xs) → l ≠ p := fun pe e z => by
      obtain ⟨t2, r2, eP2, _⟩ := pe
      rw [z, eP2] at e
      cases e
    have lfp := pl pen1 ef
    -- one of the folk
    have folk : ∀ {Z : Hp} {m : Nat} {Q' : VK}, Pen K Z p qc m → m < 1000000 → Z lf = some (.lst ((x.walkers.map WalkH.name).map V.str)) → (∀ (nm : Str) Z', nm ∈ x.walkers.map WalkH.name → Kp p Z Z' → Pen K Z' p qc (m + 1) → Q' (.str nm) Z') → spPick K [.ref p, .ref lf] Z Q' C8.E0 := fun pe hm e q' => by
      refine ⟨p, .ref lf, qc, _, _, rfl, pe, hm, .inl ⟨lf, rfl, lfp, .inl (.inl (.inl e))⟩, by rw [List.length_map, List.length_map]; omega, by rw [List.length_map, List.length_map]; omega, fun u Z' hu2 kZ penZ => ?_⟩
      obtain ⟨nm, hnm, rfl⟩ := List.mem_map.mp hu2
      exact q' nm Z' hnm kZ penZ
    -- two wishes
    refine ⟨fun σ Z => ∃ sl : Addr, σ = [some (.ref p), some (.ref h), some (.str r), some (.ref lf), some (.ref sl), none, none] ∧ WshF K H p sl lf qc (n + 3) 2 x Z ∧ lf ≠ sl, ?_, ?_⟩
    · refine ⟨.ref p, rfl, .ref lf, rfl, folk pen1 (by omega) ef fun a1 Z1 ha1 kZ1 penZ1 => ?_⟩
      refine ⟨.str r, rfl, by show 3 ≤ sizeLine; decide, fun u1 ou1 nu1 dou1 => ?_⟩
      have s1 := same_new nu1 (o := .frz ou1 (.tup [.str (Str.ofString "at"), .str a1, .str r]))
      have e1 : (upd Z1 u1 (.frz ou1 (.tup [.str (Str.ofString "at"), .str a1, .str r]))) u1 = some (.frz ou1 (.tup [.str (Str.ofString "at"), .str a1, .str r])) := upd_same
      have ef1 := s1 _ _ (kZ1 _ _ lfp ef)
      have k2 := (k1.trans kZ1).same s1
      have pen2 := penZ1.same s1
      generalize upd Z1 u1 (.frz ou1 (.tup [.str (Str.ofString "at"), .str a1, .str r])) = Z2 at s1 e1 ef1 k2 pen2
      refine ⟨.ref p, rfl, .ref lf, rfl, folk pen2 (by omega) ef1 fun a2 Z3 ha2 kZ3 penZ3 => ?_⟩
      refine ⟨.str r, rfl, by show 3 ≤ sizeLine; decide, fun u2 ou2 nu2 dou2 => ?_⟩
      have s2 := same_new nu2 (o := .frz ou2 (.tup [.str (Str.ofString "at"), .str a2, .str r]))
      have e2 : (upd Z3 u2 (.frz ou2 (.tup [.str (Str.ofString "at"), .str a2, .str r]))) u2 = some (.frz ou2 (.tup [.str (Str.ofString "at"), .str a2, .str r])) := upd_same
      have u1p : u1 ≠ p := fun z => by
        obtain ⟨t2, r2, eP2, _⟩ := id pen2
        rw [z, eP2] at e1
        cases e1
      have e1' := s2 _ _ (kZ3 _ _ u1p e1)
      have ef2 := s2 _ _ (kZ3 _ _ lfp ef1)
      have k3 := (k2.trans kZ3).same s2
      have pen3 := penZ3.same s2
      clear s1 s2 k2 pen2
      generalize upd Z3 u2 (.frz ou2 (.tup [.str (Str.ofString "at"), .str a2, .str r])) = Z4 at e1' e2 ef2 k3 pen3
      refine ⟨by show 2 ≤ sizeLine; decide, fun sl nsl => ?_⟩
      have s3 := same_new nsl (o := .lst [.ref u1, .ref u2])
      have nslH : H sl = none := by
        cases e : H sl with
        | none => rfl
        | some u =>
          by_cases c : sl = p
          · exact absurd c (pen3.off nsl)
          · rw [k3 _ _ c e] at nsl; cases nsl
      refine ⟨sl, rfl, ⟨k3.same s3, pen3.same s3, s3 _ _ ef2, nslH, [.ref u1, .ref u2], [.atw a1 r, .atw a2 r], upd_same, .cons (th_three (s3 _ _ e1') dou1 (by decide +kernel) (name_ok (wnk a1 ha1)) (name_ok (rnk r rin))) (.cons (th_three (s3 _ _ e2) dou2 (by decide +kernel) (name_ok (wnk a2 ha2)) (name_ok (rnk r rin))) .nil), fun g hg => ?_, Nat.le_refl _, Nat.succ_pos _⟩, fun z => by rw [← z, ef2] at nsl; cases nsl⟩
      rcases List.mem_cons.mp hg with rfl | hg
      · exact wfAt ha1 (wnk a1 ha1) (rnk r rin)
      · rw [List.mem_singleton.mp hg]
        exact wfAt ha2 (wnk a2 ha2) (rnk r rin)
    rintro σ2 G2 ⟨sl, rfl, W2, lfs⟩
    clear k1 pen1 ef
    -- what a room bears
    obtain ⟨ws2, gs2, ew2, _⟩ := id W2.ws
    refine ⟨.ref sl, rfl, .inl ⟨rfl, _, .inl (.inl ew2)⟩, .str r, rfl, by show 5 ≤ sizeLine; decide, fun il nil => ?_⟩
    have s1 := same_new nil (o := .lst [.int 0, .int 1, .int 2, .int 5, .int 9999999])
    have W3 := W2.same s1
    have eil : (upd G2 il (.lst [.int 0, .int 1, .int 2, .int 5, .int 9999999])) il = some (.lst [.int 0, .int 1, .int 2, .int 5, .int 9999999]) := upd_same
    clear W2 ew2 s1
    generalize upd G2 il (.lst [.int 0, .int 1, .int 2, .int 5, .int 9999999]) = G3 at W3 eil
    refine ⟨.ref p, rfl, p, qc, 5, n + 3, rfl, W3.pen, by omega, by decide, by decide, fun dd Z d0 d1 kZ penZ => ?_⟩
    have eil := kZ _ _ (pl W3.pen eil) eil
    have W4 := W3.kpp kZ penZ
    obtain ⟨i0, hi0, hi1⟩ : ∃ i0 : Int, atI [V.int 0, .int 1, .int 2, .int 5, .int 9999999] dd = some (.int i0) ∧ i0.natAbs < 10 ^ 39 := by
      have hd5 : dd = 0 ∨ dd = 1 ∨ dd = 2 ∨ dd = 3 ∨ dd = 4 := by omega
      rcases hd5 with rfl | rfl | rfl | rfl | rfl <;> exact ⟨_, rfl, by decide⟩
    refine .inl ⟨il, _, dd, _, rfl, rfl, .inl (.inl eil), hi0, by show 3 ≤ sizeLine; decide, fun u ou nu dou => ?_⟩
    have s2 := same_new nu (o := .frz ou (.tup [.str (Str.ofString "bears"), .str r, .int i0]))
    have eu : (upd Z u (.frz ou (.tup [.str (Str.ofString "bears"), .str r, .int i0]))) u = some (.frz ou (.tup [.str (Str.ofString "bears"), .str r, .int i0])) := upd_same
    have W5 := W4.same s2
    clear W3 W4 s2 eil
    generalize upd Z u (.frz ou (.tup [.str (Str.ofString "bears"), .str r, .int i0])) = G5 at W5 eu
    obtain ⟨ws5, gs5, ew5, _, _, wl5, _⟩ := id W5.ws
    refine ⟨sl, ws5, .ref u, rfl, rfl, ew5, by rw [sizeLine_eq]; omega, ?_⟩
    have W6 := W5.add pen (vs := [.ref u]) (gs := [.bears r i0]) (.cons (.tup ⟨ou, eu, dou⟩ (.cons (.str (by decide +kernel)) (.cons (.str (name_ok (rnk r rin))) (.cons (.int _) .nil)))) .nil) (fun g hg => by rw [List.mem_singleton.mp hg]; exact wfBears rin (rnk r rin) hi1) lfs ew5
    clear W5 ew5
    generalize upd G5 sl (.lst (ws5 ++ [.ref u])) = G6 at W6
    have W6 : WshF K H p sl lf qc (n + 4) 3 x G6 := W6
    -- a door open
    obtain ⟨ws6, gs6, ew6, _⟩ := id W6.ws
    have h1' := W6.kp _ _ n1 h1
    have h2' := W6.kp _ _ n2 h2
    have dkeys : dkv.map (·.1) = (x.doors.map DoorH.name).map Sum.inr := by
      rw [doorsKv_keys h3, List.map_map]
      rfl
    refine ⟨.ref sl, rfl, .inl ⟨rfl, _, .inl (.inl ew6)⟩, .ref p, rfl, .ref h, rfl, h, .ref dA, rfl, DGet.k (k := .inr "doors") h1', dA, dkv, x.doors.map DoorH.name, rfl, .inl h2', dkeys, by rw [List.length_map]; omega, fun ys l7 perm srt n7 => ?_⟩
    have ey : ys = x.doors.map DoorH.name := sort_texts srt ok.d3 perm
    subst ey
    have s7 := same_new n7 (o := .lst ((x.doors.map DoorH.name).map V.str))
    refine ⟨by show 1 ≤ sizeLine; decide, fun l8 n8 => ?_⟩
    have s8 := same_new n8 (o := .lst [.str (Str.ofString "nodoor")])
    refine .inl ⟨l7, l8, _, _, rfl, rfl, s8 _ _ upd_same, upd_same, by rw [List.length_map, List.length_map, sizeLine_eq]; show _ + 1 ≤ _; omega, fun l9 n9 => ?_⟩
    have s9 := same_new n9 (o := .lst ((x.doors.map DoorH.name).map V.str ++ [.str (Str.ofString "nodoor")]))
    have W9 := ((W6.same s7).same s8).same s9
    have e9 : (upd (upd (upd G6 l7 (.lst ((x.doors.map DoorH.name).map V.str))) l8 (.lst [.str (Str.ofString "nodoor")])) l9 (.lst ((x.doors.map DoorH.name).map V.str ++ [.str (Str.ofString "nodoor")]))) l9 = some (.lst ((x.doors.map DoorH.name ++ [Str.ofString "nodoor"]).map V.str)) := by rw [upd_same, List.map_append]; rfl
    clear W6 ew6 s7 s8 s9
    generalize upd (upd (upd G6 l7 (.lst ((x.doors.map DoorH.name).map V.str))) l8 (.lst [.str (Str.ofString "nodoor")])) l9 (.lst ((x.doors.map DoorH.name).map V.str ++ [.str (Str.ofString "nodoor")])) = G9 at W9 e9
    refine ⟨p, .ref l9, qc, n + 4, _, rfl, W9.pen, by omega, .inl ⟨l9, rfl, pl W9.pen e9, .inl (.inl (.inl e9))⟩, by rw [List.length_map, List.length_append]; exact Nat.succ_pos _, by rw [List.length_map, List.length_append, List.length_map]; show _ + 1 < _; omega, fun v1 Z1 hv1 kZ1 penZ1 => ?_⟩
    obtain ⟨dn, hdn, rfl⟩ := List.mem_map.mp hv1
    have dnok : NameOk dn := by
      rcases List.mem_append.mp hdn with hd | hd
      · exact dnk _ hd
      · rw [List.mem_singleton.mp hd]; decide +kernel
    have W10 := W9.kpp kZ1 penZ1
    refine ⟨by show 2 ≤ sizeLine; decide, fun u2 ou2 nu2 dou2 => ?_⟩
    have s2 := same_new nu2 (o := .frz ou2 (.tup [.str (Str.ofString "open"), .str dn]))
    have eu2 : (upd Z1 u2 (.frz ou2 (.tup [.str (Str.ofString "open"), .str dn]))) u2 = some (.frz ou2 (.tup [.str (Str.ofString "open"), .str dn])) := upd_same
    have W11 := W10.same s2
    clear W9 W10 s2 e9
    generalize upd Z1 u2 (.frz ou2 (.tup [.str (Str.ofString "open"), .str dn])) = G11 at W11 eu2
    obtain ⟨ws11, gs11, ew11, _, _, wl11, _⟩ := id W11.ws
    refine ⟨sl, ws11, .ref u2, rfl, rfl, ew11, by rw [sizeLine_eq]; omega, ?_⟩
    have W12 := W11.add pen (vs := [.ref u2]) (gs := [.opn dn]) (.cons (.tup ⟨ou2, eu2, dou2⟩ (.cons (.str (by decide +kernel)) (.cons (.str (name_ok dnok)) .nil))) .nil) (fun g hg => by rw [List.mem_singleton.mp hg]; exact wfOpn dnok) lfs ew11
    clear W11 ew11
    generalize upd G11 sl (.lst (ws11 ++ [.ref u2])) = G12 at W12
    have W12 : WshF K H p sl lf qc (n + 5) 4 x G12 := W12
    -- two stones
    have h1' := W12.kp _ _ n1 h1
    have h4' := W12.kp _ _ n3 h4
    have keys : (stonesKv x.stones).map (·.1) = (x.stones.map Prod.fst).map Sum.inr := by
      unfold stonesKv
      rw [List.map_map, List.map_map]
      rfl
    refine ⟨.ref h, rfl, h, .ref st, rfl, DGet.k (k := .inr "stones") h1', st, _, x.stones.map Prod.fst, rfl, .inl h4', keys, by rw [List.length_map]; omega, fun ys l13 perm srt n13 => ?_⟩
    have ey : ys = x.stones.map Prod.fst := sort_texts srt ok.s3 perm
    subst ey
    have s13 := same_new n13 (o := .lst ((x.stones.map Prod.fst).map V.str))
    refine ⟨2, rfl, .inl ⟨l13, _, rfl, .inl (.inl upd_same), fun l14 n14 => ?_⟩⟩
    rw [cutV_to (by decide), show (2 : Int).toNat = 2 from rfl, ← List.map_take]
    have s14 := same_new n14 (o := .lst (((x.stones.map Prod.fst).take 2).map V.str))
    have W14 := (W12.same s13).same s14
    have l14s : l14 ≠ sl := fun z => by
      obtain ⟨_, _, hh, _⟩ := (W12.same s13).ws
      rw [z, hh] at n14
      cases n14
    have e14 : (upd (upd G12 l13 (.lst ((x.stones.map Prod.fst).map V.str))) l14 (.lst (((x.stones.map Prod.fst).take 2).map V.str))) l14 = some (.lst (((x.stones.map Prod.fst).take 2).map V.str)) := upd_same
    clear W12 s13 s14 h1' h4'
    generalize upd (upd G12 l13 (.lst ((x.stones.map Prod.fst).map V.str))) l14 (.lst (((x.stones.map Prod.fst).take 2).map V.str)) = G14 at W14 e14
    have e14p := pl W14.pen e14
    refine ⟨l14, rfl, ⟨_, .inl (.inl e14)⟩, ?_⟩
    refine for_list (a := l14) (xs := ((x.stones.map Prod.fst).take 2).map V.str) (fun i σ Z => ∃ d5 d6 : Option V, σ = [some (.ref p), some (.ref h), some (.str r), some (.ref lf), some (.ref sl), d5, d6] ∧ WshF K H p sl lf qc (n + 5 + i) (4 + 2 * i) x Z ∧ Z l14 = some (.lst (((x.stones.map Prod.fst).take 2).map V.str))) ⟨_, _, rfl, W14, e14⟩ (fun i σ Z _ pv => ?_) (fun i y σ Z hi pv => ?_) (fun σ Z pv => ?_)
    · obtain ⟨_, _, _, _, e⟩ := pv
      exact .inl (.inl e)
    · obtain ⟨d5, d6, rfl, Wi, ei⟩ := pv
      rw [List.getElem?_map] at hi
      obtain ⟨s, hs, rfl⟩ := Option.map_eq_some_iff.mp hi
      have sin : s ∈ x.stones.map Prod.fst := List.mem_of_mem_take (List.mem_of_getElem? hs)
      have i2 : i < 2 := by
        have := (List.getElem?_eq_some_iff.mp hs).1
        rw [List.length_take] at this
        omega
      obtain ⟨wsA, gsA, ewA, _⟩ := id Wi.ws
      refine ⟨.ref sl, rfl, .inl ⟨rfl, _, .inl (.inl ewA)⟩, ?_⟩
      refine ⟨.str s, rfl, .str r, rfl, by show 3 ≤ sizeLine; decide, fun uA ouA nuA douA => ?_⟩
      have sA := same_new nuA (o := .frz ouA (.tup [.str (Str.ofString "lies"), .str s, .str r]))
      have euA : (upd Z uA (.frz ouA (.tup [.str (Str.ofString "lies"), .str s, .str r]))) uA = some (.frz ouA (.tup [.str (Str.ofString "lies"), .str s, .str r])) := upd_same
      have WA := Wi.same sA
      have eA := sA _ _ ei
      clear Wi ewA sA
      generalize upd Z uA (.frz ouA (.tup [.str (Str.ofString "lies"), .str s, .str r])) = ZA at WA eA euA
      refine ⟨.str s, rfl, .ref p, rfl, .ref lf, rfl, folk WA.pen (by omega) WA.fo fun nm ZB hnm kB penB => ?_⟩
      have WB := WA.kpp kB penB
      have eB := kB _ _ e14p eA
      have uAp : uA ≠ p := fun z => by
        obtain ⟨t2, r2, eP2, _⟩ := id WA.pen
        rw [z, eP2] at euA
        cases euA
      have euB := kB _ _ uAp euA
      refine ⟨by show 3 ≤ sizeLine; decide, fun uC ouC nuC douC => ?_⟩
      have sC := same_new nuC (o := .frz ouC (.tup [.str (Str.ofString "held"), .str s, .str nm]))
      have euC : (upd ZB uC (.frz ouC (.tup [.str (Str.ofString "held"), .str s, .str nm]))) uC = some (.frz ouC (.tup [.str (Str.ofString "held"), .str s, .str nm])) := upd_same
      have WC := WB.same sC
      have eC := sC _ _ eB
      have euA' := sC _ _ euB
      clear WA WB sC eA eB euA euB
      generalize upd ZB uC (.frz ouC (.tup [.str (Str.ofString "held"), .str s, .str nm])) = ZC at WC eC euC euA'
      refine ⟨by show 2 ≤ sizeLine; decide, fun lD nlD => ?_⟩
      have sD := same_new nlD (o := .lst [.ref uA, .ref uC])
      have elD : (upd ZC lD (.lst [.ref uA, .ref uC])) lD = some (.lst [.ref uA, .ref uC]) := upd_same
      have WD := WC.same sD
      have eD := sD _ _ eC
      have e1 := sD _ _ euA'
      have e2 := sD _ _ euC
      clear WC sD eC euC euA'
      generalize upd ZC lD (.lst [.ref uA, .ref uC]) = ZD at WD eD elD e1 e2
      obtain ⟨wsD, gsD, ewD, _, _, wlD, _⟩ := id WD.ws
      refine ⟨sl, lD, wsD, _, rfl, rfl, ewD, elD, by rw [sizeLine_eq]; show _ + 2 ≤ _; omega, ?_⟩
      have WE := WD.add pen (vs := [.ref uA, .ref uC]) (gs := [.put (Str.ofString "lies") s r, .put (Str.ofString "held") s nm]) (.cons (th_three e1 douA (by decide +kernel) (name_ok (snk s sin)) (name_ok (rnk r rin))) (.cons (th_three e2 douC (by decide +kernel) (name_ok (snk s sin)) (name_ok (wnk nm hnm))) .nil)) (fun g hg => by
        rcases List.mem_cons.mp hg with rfl | hg
        · exact wfPut (.inl rfl) sin (snk s sin) (rnk r rin)
        · rw [List.mem_singleton.mp hg]
          exact wfPut (.inr rfl) sin (snk s sin) (wnk nm hnm)) lfs ewD
      exact ⟨_, _, rfl, WE, by rw [upd_ne l14s]; exact eD⟩
    · obtain ⟨d5, d6, rfl, WF, _⟩ := pv
      have i2 : (((x.stones.map Prod.fst).take 2).map V.str).length ≤ 2 := by rw [List.length_map, List.length_take]; omega
      generalize (((x.stones.map Prod.fst).take 2).map V.str).length = i at WF i2
      obtain ⟨wsF, gsF, ewF, dqF, okF, wlF, wpF⟩ := id WF.ws
      refine ⟨.ref p, rfl, .ref sl, rfl, p, .ref sl, qc, _, wsF, rfl, WF.pen, by omega, .inl ⟨sl, rfl, pl WF.pen ewF, .inl (.inl (.inl ewF))⟩, wpF, by omega, fun v Z2 hv kZ penZ => ?_⟩
      obtain ⟨j, hj, ej⟩ := List.getElem_of_mem hv
      obtain ⟨dd, hdd, dqd⟩ := dqF.at (show wsF[j]? = some v from by rw [List.getElem?_eq_getElem hj, ej])
      rw [List.getElem?_map] at hdd
      obtain ⟨g, hg, rfl⟩ := Option.map_eq_some_iff.mp hdd
      obtain ⟨t2, r2, eP2, _⟩ := id WF.pen
      exact q v g Z2 (WF.kp.trans kZ) (penZ.le (by omega)) (Th.kp dqd WF.pen (fun _ z => z.elim) kZ) (okF g (List.mem_of_getElem? hg))
end
end Wd

set_option Elab.async false
set_option linter.all false
set_option maxRecDepth 100000
set_option maxHeartbeats 4000000
namespace Wd
open PySem PySem.Spec PyProof.Rows L2
abbrev s_kept_door : Stmt := topS 16
theorem sc_kept_door : FnScope ["one", "other", "way", "rows", "kept", "row"] ["one", "other", "way", "rows"] (C8.fnScope s_kept_door) := ⟨rfl, rfl, rfl, by decide +kernel, rfl, by decide +kernel, by decide +kernel⟩
section
variable {P : Program} {w : World} {K : PySem.W.Frag} {mg : Str → Option Value} {base : Heap}
def spKept (K : PySem.W.Frag) (TT : List (Addr × Str)) : Sp := fun vs H Q _ => ∃ (N : Addr → Prop) (o1 o2 way x y : Str) (ra : Addr) (rvs : List V) (rs rs0 : List RowH), vs = [.str o1, .str o2, .str way, .ref ra] ∧ (SqL K H ra rvs ∨ SqT K H ra rvs) ∧ DqAll N K H rvs (rs.map RowH.data) ∧ rs.Perm rs0 ∧ rs.length ≤ 60 ∧
  sortedS (rs0.map RowH.room) = true ∧ (rs0.map RowH.room).Nodup ∧ (∀ a, NewT H a → N a) ∧ LamX.Tabs TT H ∧ ((o1 = x ∧ o2 = y) ∨ (way = "both" ∧ o1 = y ∧ o2 = x)) ∧ (way = "both" → sortedS [x, y] = true) ∧
  ∀ (t : Addr) (H' : Hp), LamX.ExtN H H' → LamX.Tabs TT H' → NewT H t → Dq N K H' (.ref t) (.tuple [.str x, .str y, .str way, rowsData rs0]) → Q (.ref t) H'
theorem c_kept {c : CA} {cc PP : Addr} {TT : List (Addr × Str)} (T : Txt P w K mg base c) (TB : LamX.TabB base mg cc PP) {f : Addr} {fd : FuncData} (F : C8.Def K mg "kept_door" s_kept_door f fd) (hcode : fd.code = .ref cc) (b : Binds K fd ["one", "other", "way", "rows"] [])
    (hmT : (PP, ("kept_door.<locals>.<lambda>" : Str)) ∈ TT) (huT : ∀ z ∈ TT, z.1 = PP → z.2 = ("kept_door.<locals>.<lambda>" : Str)) : C8.Cal P w K mg base 4 "kept_door" (spKept K TT) [] := by
  refine calT F hcode b .nil sc_kept_door (fun vs H Q E h => ?_) (fun A outer s H vs Q E hr h => ?_)
  · obtain ⟨N, o1, o2, way, x, y, ra, rvs, rs, rs0, rfl, _⟩ := h
    rfl
  · obtain ⟨N, o1, o2, way, x, y, ra, rvs, rs, rs0, rfl, hs, hdq, hpm, h60, hso, hnd, hN, hT, hends, hway, q⟩ := h
    have hu := hu_of hr
    have hu6 := hu64 hr
    have hr2 : Room (1 + 2) (A.deeper (envOfC "kept_door" (C8.fnScope s_kept_door) s.heap.objs.size f (.ref cc))) := hr
    refine ⟨_, (C8.pss_cut (ps_if (pt_cmpR (op_eqX (K := K) hu6) (pv 2) pe_str (nomark _)) (pss_one (ps_asg (pe_callB (cr_sortG (K := K)) (by rfl) T.b_sorted bt_sorted (pa_cons (pe_lst (pa_cons (pv 0) (pa_cons (pv 1) pa_nil))) pa_nil)) (pg_lstK (K := K) (n := 2) rfl (pgs_cons (pg_name (i := 0) sc_kept_door.nd rfl (.inl rfl)) (pgs_cons (pg_name (i := 1) sc_kept_door.nd rfl (.inl rfl)) pgs_nil))))) pss_nil)
  (pss_cons (ps_set (i := 4) sc_kept_door.nd rfl (.inl rfl) (pe_sortedK (T := TT) (K := K) rfl (pe_lc (own := [("row", 5)]) rfl sc_kept_door.nd (pi_seqK (K := K) (pv 3)) (blkOk_by (by kernel_rfl)) (fun _ _ _ _ _ => (pg_name (i := 5) sc_kept_door.nd rfl (.inl rfl))) (fun _ _ _ _ _ => pts_nil)
      (fun _ _ _ _ _ => (pe_tupleK (K := K) (by rfl) T.b_tuple (pv 5)))) (by rfl) T.b_sorted TB rfl hmT huT hr2 (nofree_by (by kernel_rfl)) rfl (fun _ _ _ _ _ _ => rfl) rfl rfl rfl (nocell_by (by kernel_rfl)) rfl rfl))
  (pss_one (ps_ret (pe_tup (pa_cons (pv 0) (pa_cons (pv 1) (pa_cons (pv 2) (pa_cons (pe_tupleOf (by rfl) T.b_tuple (pv 4)) pa_nil))))))))), ?_⟩
    refine ⟨fun σ G => σ = [some (.str x), some (.str y), some (.str way), some (.ref ra), none, none] ∧ Same H G, ?_, ?_⟩
    · refine ⟨.str way, rfl, .inl ⟨rfl, _, rfl, ite2 (fun e => ?_) (fun e => ?_)⟩⟩
      · have wb : way = "both" := by
          have := of_decide_eq_true e
          injection this
        refine ⟨.str o1, rfl, .str o2, rfl, by show 2 ≤ sizeLine; decide, fun l nl => ⟨l, [o1, o2], rfl, .inl (.inl (.inl upd_same)), by show 2 < 64; decide, fun ys p2 yp ysort np => ?_⟩⟩
        have pxy : [o1, o2].Perm [x, y] := by
          rcases hends with ⟨rfl, rfl⟩ | ⟨_, rfl, rfl⟩
          · exact List.Perm.refl _
          · exact List.Perm.swap _ _ _
        have ey : ys = [x, y] := sort_texts ysort (hway wb) (yp.trans pxy)
        subst ey
        exact ⟨p2, _, rfl, .inl (.inl upd_same), rfl, _, _, rfl, _, _, rfl, rfl, rfl, (same_new nl).trans (same_new np)⟩
      · have wb : ¬ way = "both" := fun z => e (decide_eq_true (by rw [z]))
        rcases hends with ⟨rfl, rfl⟩ | ⟨z, _⟩
        · exact ⟨rfl, Same.refl _⟩
        · exact absurd z wb
    rintro σ1 G ⟨rfl, sm⟩
    have hlen : rvs.length = rs.length := by rw [hdq.length, List.length_map]
    have hdqG := hdq.mono sm
    -- the list of the rows is known: it is walked, sorted
    have fin : ∀ (G2 : Hp) (D : Addr), Same G G2 → G D = none → G2 D = some (.lst rvs) → tSortKQ K TT (fun v G3 => tRet (tTup (tCons (tVar 0) (tCons (tVar 1) (tCons (tVar 2) (tCons (tThen (tVar 4) (kTup K)) tNil))))) { nx := fun _ G' => Q .non G', rt := Q } [some (.str x), some (.str y), some (.str way), some (.ref ra), some v, none] G3) [.ref D] G2 := by
      intro G2 D s2 nD gD
      have hz1 : ((rvs.zip rs).map fun z : V × RowH => (z.1, z.2.room)).map Prod.fst = rvs := by
        rw [List.map_map]
        exact List.map_fst_zip (by omega)
      have T0 : LamX.Tabs TT G2 := hT.ext fun b o e => s2 _ _ (sm _ _ e)
      refine ⟨D, (rvs.zip rs).map fun z : V × RowH => (z.1, z.2.room), rfl, T0, fun H2 eN T2 => ?_⟩
      have eH : LamX.ExtN H H2 := LamX.ExtN.trans (LamX.ExtN.of fun b o e => s2 _ _ (sm _ _ e)) eN
      have dq2 : DqAll N K H2 rvs (rs.map RowH.data) := rowsT (fun a xs _ h => ext_sqT eH h) hdq
      refine ⟨.inl ?_, fun z hz => ?_, fun D2 n2 => ?_⟩
      · rw [hz1]
        exact .inl (.inl (eN _ _ gD fun _ z => by cases z))
      · obtain ⟨z0, hz0, rfl⟩ := List.mem_map.mp hz
        obtain ⟨t, rest, e1, _, e2⟩ := row_inv (zip_dq dq2 z0 hz0)
        exact ⟨t, rest, e1, e2⟩
      · obtain ⟨vs0, ev, dq0⟩ := rows_sorted dq2 hpm hso hnd
        rw [ev]
        have l0 : vs0.length = rs0.length := by rw [dq0.length, List.length_map]
        have m1 := same_new n2 (o := .lst vs0)
        refine ⟨.str x, rfl, .str y, rfl, .str way, rfl, .ref D2, rfl, .inl ⟨D2, vs0, rfl, .inl (.inl upd_same), fun tq nq => ⟨by show 4 ≤ sizeLine; decide, fun t nt => ?_⟩⟩⟩
        have m2 := m1.trans (same_new nq (o := .tup vs0))
        have m3 := m2.trans (same_new nt (o := .tup [V.str x, V.str y, V.str way, V.ref tq]))
        have eq' : NewT H tq := ext_new (LamX.ExtN.trans eH (LamX.ExtN.of m1)) nq
        have et' : NewT H t := ext_new (LamX.ExtN.trans eH (LamX.ExtN.of m2)) nt
        refine q t _ (LamX.ExtN.trans eH (LamX.ExtN.of m3)) (T2.ext m3) et' (.tup (hN _ et') (.inl (.inl upd_same)) (.cons (.str _) (.cons (.str _) (.cons (.str _) (.cons (.tup (hN _ eq') (.inl (.inl (same_new nt _ _ upd_same))) (dq0.mono m3)) .nil)))))
    rcases hs with hs | hs
    · refine ⟨.ref ra, rfl, ra, rfl, .inl ⟨⟨_, sqL_at (fun o => sm _ o) hs⟩, fun D nD => ?_⟩⟩
      refine lc_list (a := ra) (xs := rvs) (fun i G2 => Same G G2 ∧ G2 D = some (.lst (rvs.take i))) ⟨same_new nD, upd_same⟩ (fun i G2 _ pv => sqL_at (fun o => pv.1 _ o) (sqL_at (fun o => sm _ o) hs)) (fun i v G2 hv pv => ?_) (fun G2 pv => ?_)
      · obtain ⟨s2, gD⟩ := pv
        obtain ⟨dd, hdd, dqv⟩ := hdqG.get hv
        rw [List.getElem?_map] at hdd
        obtain ⟨r, hr', rfl⟩ := Option.map_eq_some_iff.mp hdd
        obtain ⟨t, rest, rfl, _, et⟩ := row_inv dqv
        refine ⟨rfl, yes_if ?_⟩
        refine ⟨_, rfl, .inr ⟨t, _, rfl, sqT_at (fun o => s2 _ o) et, _, gD, ?_, same_mut s2 nD, ?_⟩⟩
        · rw [List.length_take]
          exact small1000000 (by omega)
        · rw [upd_same, take_snoc hv]
      · obtain ⟨s2, gD⟩ := pv
        rw [List.take_length] at gD
        exact fin G2 D s2 nD gD
    · refine ⟨.ref ra, rfl, ra, rfl, .inr ⟨⟨_, sqT_at (fun o => sm _ o) hs⟩, fun D nD => ?_⟩⟩
      refine lc_it (walk_tup (a := ra) (xs := rvs)) (fun i G2 => Same G G2 ∧ G2 D = some (.lst (rvs.take i))) ⟨same_new nD, upd_same⟩ (fun i G2 _ pv => sqT_at (fun o => pv.1 _ o) (sqT_at (fun o => sm _ o) hs)) (fun i v G2 G3 hi pv hy => ?_) (fun G2 pv => ?_)
      · obtain ⟨rfl, hv⟩ := hy
        obtain ⟨s2, gD⟩ := pv
        obtain ⟨dd, hdd, dqv⟩ := hdqG.get hv
        rw [List.getElem?_map] at hdd
        obtain ⟨r, hr', rfl⟩ := Option.map_eq_some_iff.mp hdd
        obtain ⟨t, rest, rfl, _, et⟩ := row_inv dqv
        refine ⟨rfl, yes_if ?_⟩
        refine ⟨_, rfl, .inr ⟨t, _, rfl, sqT_at (fun o => s2 _ o) et, _, gD, ?_, same_mut s2 nD, ?_⟩⟩
        · rw [List.length_take]
          exact small1000000 (by omega)
        · rw [upd_same, take_snoc hv]
      · obtain ⟨s2, gD⟩ := pv
        rw [List.take_length] at gD
        exact fin G2 D s2 nD gD
end
end Wd

set_option Elab.async false
set_option linter.all false
set_option maxRecDepth 100000
set_option maxHeartbeats 4000000
namespace Wd
open PySem PySem.Spec PyProof.Rows L2
abbrev s_leads_of : Stmt := topS 17
theorem sc_leads_of : FnScope ["rooms", "doors", "leads", "name", "one", "other", "way", "_", "room"] ["rooms", "doors"] (C8.fnScope s_leads_of) := ⟨rfl, rfl, rfl, by decide +kernel, rfl, by decide +kernel, by decide +kernel⟩
section
variable {P : Program} {w : World} {K : PySem.W.Frag} {mg : Str → Option Value} {base : Heap}
def spLeads (K : PySem.W.Frag) : Sp := fun vs H Q _ => ∃ (N : Addr → Prop) (r d : Addr) (rooms : List Str) (dkv : List (Key × V)) (ds : List DoorH), vs = [.ref r, .ref d] ∧ H r = some (.lst (rooms.map V.str)) ∧ H d = some (.dK dkv) ∧ DqKv anyA K H dkv (doorsKv ds) ∧ rooms.Nodup ∧ rooms.length ≤ 60 ∧ ds.length ≤ 60 ∧
  (∀ z ∈ ds, z.one ∈ rooms ∧ z.other ∈ rooms) ∧ (∀ a, H a = none → N a) ∧ ∀ (l : Addr) (H' : Hp), Same H H' → H l = none → LeadsAt N K H' l rooms ds → Q (.ref l) H'
theorem c_leads {c : CA} (T : Txt P w K mg base c) {f : Addr} {fd : FuncData} (F : C8.Def K mg "leads_of" s_leads_of f fd) (b : Binds K fd ["rooms", "doors"] []) : C8.Cal P w K mg base 1 "leads_of" (spLeads K) [] := by
  refine C8.cal0 F b .nil sc_leads_of (fun vs H Q E h => ?_) (fun cdv A outer s H vs Q E hr h => ?_)
  · obtain ⟨N, r, d, rooms, dkv, ds, rfl, _⟩ := h
    rfl
  · obtain ⟨N, r, d, rooms, dkv, ds, rfl, hr0, hd0, hdq, hnd, hl1, hl2, hin, hN, q⟩ := h
    have hu := hu_of hr
    have hu6 := hu64 hr
    refine ⟨_, (pss_cons (ps_setDc (i := 2) rfl sc_leads_of.nd rfl rfl (sw_trueD rfl rfl rfl (by decide +kernel)) (own := [("room", 8)]) (pi_listK (K := K) (pv 0)) (blkOk_by (by kernel_rfl)) (fun _ _ _ _ _ => (pg_name (i := 8) sc_leads_of.nd rfl (.inl rfl))) (fun _ _ _ _ _ => pts_nil)
      (fun _ _ _ _ _ => (pv 8))
      (fun _ _ _ _ _ => (pe_lst pa_nil)))
  (pss_cons (ps_lock (ps_for PassesOwn.never rfl (pi_items (pv 1)) (pg_tupK (K := K) (n := 2) rfl (pgs_cons (pg_name (i := 3) sc_leads_of.nd rfl (.inl rfl)) (pgs_cons (pg_tupK (K := K) (n := 4) rfl (pgs_cons (pg_name (i := 4) sc_leads_of.nd rfl (.inl rfl)) (pgs_cons (pg_name (i := 5) sc_leads_of.nd rfl (.inl rfl)) (pgs_cons (pg_name (i := 6) sc_leads_of.nd rfl (.inl rfl)) (pgs_cons (pg_name (i := 7) sc_leads_of.nd rfl (.inl rfl)) pgs_nil))))) pgs_nil)))
    (pss_cons (ps_expr (pe_bm PySem.F.plainAttrs_list PySem.F.slot_list_append PySem.F.type_list_append mt_append (pe_dget hu (pv 2) (pv 4) (fun _ _ => rfl)) (pa_cons (pe_tup (pa_cons (pv 3) (pa_cons (pv 5) pa_nil))) pa_nil)))
  (pss_one (ps_if (pt_cmpR (op_eqX (K := K) hu6) (pv 6) pe_str (nomark _)) (pss_one (ps_expr (pe_bm PySem.F.plainAttrs_list PySem.F.slot_list_append PySem.F.type_list_append mt_append (pe_dget hu (pv 2) (pv 5) (fun _ _ => rfl)) (pa_cons (pe_tup (pa_cons (pv 3) (pa_cons (pv 4) pa_nil))) pa_nil)))) pss_nil)))))
  (pss_one (ps_ret (pv 2))))), ?_⟩
    refine ⟨.ref r, rfl, r, rfl, ⟨_, .inl (.inl hr0)⟩, fun l nl => ?_⟩
    have s1 := same_new nl (o := .dK [])
    refine dc_walk (walk_list (a := r) (xs := rooms.map V.str)) (fun i Z => Same H Z ∧ ∃ la : List Addr, la.length = (rooms.take i).length ∧ la.Nodup ∧ Z l = some (.dK (leadsKv (rooms.take i) la)) ∧ ∀ a ∈ la, H a = none ∧ Z a = some (.lst []))
      ⟨s1, [], rfl, List.nodup_nil, upd_same, fun _ m => absurd m (by simp)⟩ (fun i Z _ pv => .inl (.inl (pv.1 _ _ hr0))) (fun i v Z Z' hi pv hy => ?_) (fun Z pv => ?_)
    · obtain ⟨rfl, hv⟩ := hy
      obtain ⟨s2, la, h1, h2, h3, h4⟩ := pv
      rw [List.getElem?_map] at hv
      obtain ⟨rm, hrm, rfl⟩ := Option.map_eq_some_iff.mp hv
      refine ⟨rfl, yes_if ⟨.str rm, rfl, Nat.zero_le _, fun a na => ⟨_, .inr rm, rfl, same_new na _ _ h3, ?_, ?_⟩⟩⟩
      · have : (leadsKv (rooms.take i) la).length = (rooms.take i).length := by
          unfold leadsKv
          rw [List.length_map, List.length_zip]
          omega
        rw [this, List.length_take]
        exact small1000000 (by omega)
      · have hfr : valV (leadsKv (rooms.take i) la) (.inr rm) = none := valV_off (by
          rw [leadsKv_keys h1]
          intro m
          have m2 := inr_in m
          have hi2 : i < rooms.length := (List.getElem?_eq_some_iff.mp hrm).1
          have e2 := (List.getElem?_eq_some_iff.mp hrm).2
          have := not_in_take hnd hi2
          rw [e2] at this
          exact this m2)
        have na0 : H a = none := s2.free na
        have nal : a ≠ l := fun z => by rw [z, h3] at na; cases na
        refine ⟨same_mut (s2.trans (same_new na)) nl, la ++ [a], ?_, ?_, ?_, fun b hb => ?_⟩
        · rw [take_snoc hrm, List.length_append, List.length_append, h1]
          rfl
        · rw [List.nodup_append]
          refine ⟨h2, by simp, fun x hx y hy e => ?_⟩
          rw [List.mem_singleton.mp hy] at e
          rw [e] at hx
          rw [(h4 _ hx).2] at na
          cases na
        · rw [upd_same, putK_new _ hfr, take_snoc hrm]
          unfold leadsKv
          rw [List.zip_append h1.symm, List.map_append]
          rfl
        · have nb : b ≠ l := fun z => by
            rcases List.mem_append.mp hb with hb | hb
            · have := (h4 _ hb).2
              rw [z, h3] at this
              cases this
            · rw [List.mem_singleton.mp hb] at z
              exact nal z
          rw [upd_ne nb]
          rcases List.mem_append.mp hb with hb | hb
          · exact ⟨(h4 _ hb).1, same_new na _ _ (h4 _ hb).2⟩
          · rw [List.mem_singleton.mp hb]
            exact ⟨na0, upd_same⟩
    · obtain ⟨s2, la, h1, h2, h3, h4⟩ := pv
      rw [List.length_map] at h1 h3
      rw [List.take_length] at h1 h3
      refine ⟨d, .dK dkv, s2 _ _ hd0, trivial, fun od => ⟨.ref d, rfl, d, od, dkv, rfl, upd_same, ?_⟩⟩
      have dl : dkv.length = ds.length := by
        have := congrArg List.length (doorsKv_keys hdq)
        rw [List.length_map, List.length_map] at this
        exact this
      have nld : l ≠ d := fun z => by rw [z, hd0] at nl; cases nl
      have hla : ∀ z ∈ rooms.zip la, z.2 ∈ la := fun z hz => (List.of_mem_zip hz).2
      have r0 : RL K H d l (.frz od (.dK dkv)) rooms la (leadsH (ds.take 0)) (upd Z d (.frz od (.dK dkv))) := by
        refine ⟨by rw [upd_ne nld]; exact h3, upd_same, fun b u nb e => by rw [upd_ne nb]; exact s2 _ _ e, fun z hz => ?_⟩
        have hm := h4 _ (hla z hz)
        refine ⟨[], hm.1, ?_, .nil⟩
        rw [upd_ne (fun e => by rw [e, hd0] at hm; cases hm.1)]
        exact hm.2
      refine for_it (walk_items (d := d) (o := od) (kvs := dkv)) (fun i σ G => ∃ d3 d4 d5 d6 d7 : Option V, σ = [some (.ref r), some (.ref d), some (.ref l), d3, d4, d5, d6, d7, none] ∧ RL K H d l (.frz od (.dK dkv)) rooms la (leadsH (ds.take i)) G) ⟨_, _, _, _, _, rfl, r0⟩ (fun i σ G _ pv => ?_) (fun i v σ G G' hi pv hy => ?_) (fun σ G pv => ?_)
      · obtain ⟨d3, d4, d5, d6, d7, _, rl⟩ := pv
        exact rl.atD
      · obtain ⟨d3, d4, d5, d6, d7, rfl, rl⟩ := pv
        obtain ⟨Tp, x, y, rfl, nT, rfl, hx, hy⟩ := hy
        dsimp only at hx hy
        have hid : i < ds.length := by omega
        have hk : dkv[i]? = some (.inr ds[i].name, y) := by
          have e := doorsKv_keys hdq
          have e2 := congrArg (fun z => z[i]?) e
          rw [List.getElem?_map, List.getElem?_map, List.getElem?_eq_getElem hid, List.getElem?_eq_getElem hi] at e2
          rw [List.getElem?_eq_getElem hi] at hy ⊢
          have e3 : dkv[i].1 = .inr ds[i].name := Option.some.inj e2
          have e4 : dkv[i].2 = y := Option.some.inj hy
          rw [← e3, ← e4]
        rw [hk] at hx
        obtain rfl : V.str ds[i].name = x := Option.some.inj hx
        have dq : DqKv anyA K G dkv (doorsKv ds) := DqKv.moveD (fun _ z => z) (fun a o _ no e => rl.up a o (fun z => by rw [z, hd0] at e; exact no _ (Option.some.inj e).symm) e) _ _ hdq
        obtain ⟨y', ey, dy⟩ := doorsKv_get dq hid
        rw [hk] at ey
        obtain rfl : y = y' := by injection (Option.some.inj ey)
        obtain ⟨t, tr, rvs, rfl, nt, ntr, et, _, _⟩ := door_inv dy
        have rl1 := rl.new nT (.tup [V.str ds[i].name, .ref t])
        have et1 := sqT_at (fun o => same_new nT (o := .tup [V.str ds[i].name, .ref t]) t o) et
        have hT : (upd G Tp (.tup [V.str ds[i].name, .ref t])) Tp = some (.tup [V.str ds[i].name, .ref t]) := upd_same
        generalize upd G Tp (.tup [V.str ds[i].name, .ref t]) = G1 at rl1 et1 hT
        refine ⟨Tp, _, rfl, .inl (.inl hT), rfl, _, _, rfl, _, _, rfl, t, _, rfl, et1, rfl, _, _, rfl, _, _, rfl, _, _, rfl, _, _, rfl, rfl, rfl, ?_⟩
        obtain ⟨o1, o2⟩ := hin _ (List.getElem_mem hid)
        -- from the one room
        obtain ⟨a1, m1⟩ := zip_at h1 o1
        obtain ⟨vs1, f0, f1, f2⟩ := rl1.each _ m1
        have v1 : vs1.length ≤ 120 := by
          rw [f2.length, List.length_map]
          have := leadsH_len (ds.take i) ds[i].one
          rw [List.length_take] at this
          dsimp only
          omega
        refine ⟨.ref l, rfl, .str ds[i].one, rfl, l, .ref a1, rfl, .inl ⟨_, .inr ds[i].one, .inl rl1.atL, rfl, (leadsKv_at h1 hnd m1).symm⟩, .inl ⟨rfl, _, .inl (.inl f1)⟩, .str ds[i].name, rfl, .str ds[i].other, rfl, by show 2 ≤ sizeLine; decide, fun t1 n1 => ?_⟩
        have rl2 := rl1.new n1 (.tup [V.str ds[i].name, V.str ds[i].other])
        have g1 := same_new n1 (o := .tup [V.str ds[i].name, V.str ds[i].other]) _ _ f1
        have t1' : (upd G1 t1 (.tup [V.str ds[i].name, V.str ds[i].other])) t1 = some (.tup [V.str ds[i].name, V.str ds[i].other]) := upd_same
        have f2' := leads_dq (fun _ z => z) (fun b xs _ h => sqT_at (fun o => same_new n1 (o := .tup [V.str ds[i].name, V.str ds[i].other]) b o) h) f2
        have N1 : ∀ a, G1 a = none → N a := fun a na => hN a (by
          cases q : H a with
          | none => rfl
          | some u =>
            by_cases c : a = d
            · rw [c, rl1.atD] at na
              cases na
            · rw [rl1.up a u c q] at na
              cases na)
        refine ⟨a1, vs1, _, rfl, rfl, g1, small1000000 (by omega), ?_⟩
        have rl3 := rl2.app hnd h2 (fun _ z => by cases z) m1 g1 f2' t1'
        generalize upd (upd G1 t1 (.tup [V.str ds[i].name, V.str ds[i].other])) a1 (.lst (vs1 ++ [.ref t1])) = G2 at rl3
        refine ⟨.str ds[i].way, rfl, .inl ⟨rfl, _, rfl, ite2 (fun e => ?_) (fun e => ?_)⟩⟩
        · have wb : ds[i].way = "both" := by
            have := of_decide_eq_true e
            injection this
          obtain ⟨a2, m2⟩ := zip_at h1 o2
          obtain ⟨vs2, f3, f4, f5⟩ := rl3.each _ m2
          have v2 : vs2.length ≤ 1000 := by
            rw [f5.length, List.length_map]
            have := leadsH_len (ds.take i) ds[i].other
            rw [List.length_take] at this
            dsimp only
            split
            · rw [List.length_append]
              show _ + 1 ≤ 1000
              omega
            · omega
          refine ⟨.ref l, rfl, .str ds[i].other, rfl, l, .ref a2, rfl, .inl ⟨_, .inr ds[i].other, .inl rl3.atL, rfl, (leadsKv_at h1 hnd m2).symm⟩, .inl ⟨rfl, _, .inl (.inl f4)⟩, .str ds[i].name, rfl, .str ds[i].one, rfl, by show 2 ≤ sizeLine; decide, fun t2 n2 => ?_⟩
          have rl4 := rl3.new n2 (.tup [V.str ds[i].name, V.str ds[i].one])
          have g4 := same_new n2 (o := .tup [V.str ds[i].name, V.str ds[i].one]) _ _ f4
          have t2' : (upd G2 t2 (.tup [V.str ds[i].name, V.str ds[i].one])) t2 = some (.tup [V.str ds[i].name, V.str ds[i].one]) := upd_same
          have f5' := leads_dq (fun _ z => z) (fun b xs _ h => sqT_at (fun o => same_new n2 (o := .tup [V.str ds[i].name, V.str ds[i].one]) b o) h) f5
          have N2 : N t2 := hN t2 (by
            cases q : H t2 with
            | none => rfl
            | some u =>
              by_cases c : t2 = d
              · rw [c, rl3.atD] at n2
                cases n2
              · rw [rl3.up t2 u c q] at n2
                cases n2)
          refine ⟨a2, vs2, _, rfl, rfl, g4, small1000000 (by omega), ?_⟩
          have rl5 := rl4.app hnd h2 (fun _ z => by cases z) m2 g4 f5' t2'
          refine ⟨_, _, _, _, _, rfl, rl5.ext fun q => ?_⟩
          rw [take_snoc (List.getElem?_eq_getElem hid), leadsH_snoc]
          unfold leadsOf1
          by_cases c1 : q = ds[i].one
          · by_cases c2 : q = ds[i].other
            · rw [if_pos c2, if_pos c1, if_pos c1, if_pos ⟨wb, c2⟩, List.append_assoc]
            · rw [if_neg c2, if_pos c1, if_pos c1, if_neg (fun z => c2 z.2), List.append_nil]
          · by_cases c2 : q = ds[i].other
            · rw [if_pos c2, if_neg c1, if_neg c1, if_pos ⟨wb, c2⟩, List.nil_append]
            · rw [if_neg c2, if_neg c1, if_neg c1, if_neg (fun z => c2 z.2), List.nil_append, List.append_nil]
        · have wb : ¬ ds[i].way = "both" := fun z => e (decide_eq_true (by rw [z]))
          refine ⟨_, _, _, _, _, rfl, rl3.ext fun q => ?_⟩
          rw [take_snoc (List.getElem?_eq_getElem hid), leadsH_snoc]
          unfold leadsOf1
          by_cases c1 : q = ds[i].one
          · rw [if_pos c1, if_pos c1, if_neg (fun z => wb z.1), List.append_nil]
          · rw [if_neg c1, if_neg c1, if_neg (fun z => wb z.1), List.append_nil, List.append_nil]
      · obtain ⟨d3, d4, d5, d6, d7, rfl, rl⟩ := pv
        rw [dl, List.take_length] at rl
        refine ⟨rl.atD, .ref l, rfl, q l _ (fun b u e => ?_) nl ?_⟩
        · by_cases c : b = d
          · rw [c, upd_same, ← hd0, ← c]
            exact e
          · rw [upd_ne c]
            exact rl.up b u c e
        · refine ⟨la, h1, by rw [upd_ne nld]; exact rl.atL, fun z hz => ?_⟩
          obtain ⟨vs, g0, g1, g2⟩ := rl.each z hz
          have nz : z.2 ≠ d := fun e => by rw [e, hd0] at g0; cases g0
          refine ⟨vs, hN _ g0, by rw [upd_ne nz]; exact g1, leads_dq (fun _ z => z) (fun b xs nb h => ?_) g2⟩
          rcases h with (h | ⟨u, h⟩) | h
          · exact .inl (.inl (by rw [upd_ne (fun e => by rw [e, rl.atD] at h; cases h)]; exact h))
          · exact .inl (.inr ⟨u, by rw [upd_ne (fun e => by rw [e, rl.atD] at h; cases h)]; exact h⟩)
          · exact .inr h
end
end Wd

set_option Elab.async false
set_option linter.all false
set_option maxRecDepth 100000
set_option maxHeartbeats 4000000
namespace Wd
open PySem PySem.Spec PyProof.Rows L2
abbrev s_Hall___init__ : Stmt := inClass (topS 15) 0
theorem sc_Hall___init__ : FnScope ["self", "rooms", "doors", "stones", "walkers", "name", "heft", "hands", "one", "other", "way", "rows", "_"] ["self", "rooms", "doors", "stones", "walkers"] (C8.fnScope s_Hall___init__) := ⟨rfl, rfl, rfl, by decide +kernel, rfl, by decide +kernel, by decide +kernel⟩
section
variable {P : Program} {w : World} {K : PySem.W.Frag} {mg : Str → Option Value} {base : Heap}
/-- a door as it is handed in, at the reading alone -/
def DoorV (N : Addr → Prop) (K : PySem.W.Frag) (H : Hp) (v : V) (z : DoorH) : Prop := ∃ (t tt : Addr) (one other : Str) (rows : List RowH) (rvs : List V), v = .ref t ∧ SqT K H t [.str z.name, .str one, .str other, .str z.way, .ref tt] ∧
  ((one = z.one ∧ other = z.other) ∨ (z.way = "both" ∧ one = z.other ∧ other = z.one)) ∧ rows.Perm z.rows ∧ DqAll N K H rvs (rows.map RowH.data) ∧ Sq K H tt rvs
def spInit (K : PySem.W.Frag) (TT : List (Addr × Str)) (C : Addr) : Sp := fun vs H Q _ => ∃ (N : Addr → Prop) (m dx r d st wl : Addr) (x : HallH) (rooms : List Str) (ds : List DoorH) (dvs svs wvs : List V) (sn : List (Str × Int)) (sr sd ss sw : Nat), vs = [.ref m, .ref r, .ref d, .ref st, .ref wl] ∧ H m = some (.ins C dx []) ∧
  HallOk sr sd ss sw x ∧ sr ≤ 60 ∧ sd ≤ 60 ∧ ss ≤ 60 ∧ sw ≤ 60 ∧ Sq K H r (rooms.map V.str) ∧ rooms.Perm x.rooms ∧ Sq K H d dvs ∧ Paired (DoorV anyA K H) dvs ds ∧ ds.Perm x.doors ∧ Sq K H st svs ∧ DqAll anyA K H svs (sn.map stoneD) ∧ sn.Perm x.stones ∧ Sq K H wl wvs ∧ DqAll anyA K H wvs (x.walkers.map WalkH.data) ∧
  (∀ a, NewT H a → N a) ∧ N m ∧ LamX.Tabs TT H ∧ ∀ H', ExtM m H H' → LamX.Tabs TT H' → HObj N K C H' m x → Q .non H'
theorem i_hall {c : CA} {cc PP C : Addr} {TT : List (Addr × Str)} (T : Txt P w K mg base c) (TH : TxtH K C) (TB : LamX.TabB base mg cc PP) (ckept_door : C8.Cal P w K mg base 4 "kept_door" (spKept K TT) []) (cleads_of : C8.Cal P w K mg base 1 "leads_of" (spLeads K) []) {f : Addr} {fd : FuncData} (F : C8.Fun K "__init__" "Hall.__init__" s_Hall___init__ f fd) (hcode : fd.code = .ref cc)
    (hmT : (PP, ("Hall.__init__.<locals>.<lambda>" : Str)) ∈ TT) (huT : ∀ z ∈ TT, z.1 = PP → z.2 = ("Hall.__init__.<locals>.<lambda>" : Str)) : FnOk P w K mg base CX0 5 f fd ["self", "rooms", "doors", "stones", "walkers"] (spInit K TT C) := by
  refine fnT F hcode sc_Hall___init__ (fun vs H Q E h => ?_) (fun A outer s H vs Q E hr h => ?_)
  · obtain ⟨N, m, dx, r, d, st, wl, x, rooms, ds, dvs, svs, wvs, sn, sr, sd, ss, sw, rfl, _⟩ := h
    rfl
  · obtain ⟨N, m, dx, r, d, st, wl, x, rooms, ds, dvs, svs, wvs, sn, sr, sd, ss, sw, rfl, hm, ok, b1, b2, b3, b4, hr0, rp, hd0, pd, dp, hs0, sq, sp, hw0, wq, hN, nm, hT, q⟩ := h
    have hu := hu_of hr
    have hu6 := hu64 hr
    have hr2 : Room (2 + 2) (A.deeper (envOfC "Hall.__init__" (C8.fnScope s_Hall___init__) s.heap.objs.size f (.ref cc))) := hr
    refine ⟨_, (pss_cons (ps_fld (pv 0) (pe_callB (cr_sortG (K := K)) (by rfl) T.b_sorted bt_sorted (pa_cons (pv 1) pa_nil)) rfl)
  (pss_cons (ps_fld (pv 0) (pe_dc (own := [("name", 5), ("one", 8), ("other", 9), ("way", 10), ("rows", 11)]) rfl sc_Hall___init__.nd (pi_listK (K := K) (pe_sortedK (T := TT) (K := K) rfl (pv 2) (by rfl) T.b_sorted TB rfl hmT huT hr2 (nofree_by (by kernel_rfl)) rfl (fun _ _ _ _ _ _ => rfl) rfl rfl rfl (nocell_by (by kernel_rfl)) rfl rfl)) (blkOk_by (by kernel_rfl)) (fun _ _ _ _ _ => (pg_tupK (K := K) (n := 5) rfl (pgs_cons (pg_name (i := 5) sc_Hall___init__.nd rfl (.inl rfl)) (pgs_cons (pg_name (i := 8) sc_Hall___init__.nd rfl (.inl rfl)) (pgs_cons (pg_name (i := 9) sc_Hall___init__.nd rfl (.inl rfl)) (pgs_cons (pg_name (i := 10) sc_Hall___init__.nd rfl (.inl rfl)) (pgs_cons (pg_name (i := 11) sc_Hall___init__.nd rfl (.inl rfl)) pgs_nil))))))) (fun _ _ _ _ _ => pts_nil)
      (fun _ _ _ _ _ => (pv 5))
      (fun _ _ _ _ _ => (C8.pe_c ckept_door hr (by decide) (by rfl) (pa_cons (pv 8) (pa_cons (pv 9) (pa_cons (pv 10) (pa_cons (pv 11) pa_nil))))))) rfl)
  (pss_cons (ps_fld (pv 0) (C8.pe_c cleads_of hr (by decide) (by rfl) (pa_cons (pe_fld (pv 0) rfl) (pa_cons (pe_fld (pv 0) rfl) pa_nil))) rfl)
  (pss_cons (ps_fld (pv 0) (pe_callB (cr_sortG (K := K)) (by rfl) T.b_sorted bt_sorted (pa_cons (pe_lc (own := [("name", 5), ("_", 12)]) rfl sc_Hall___init__.nd (pi_seqW (K := K) (pv 3)) (blkOk_by (by kernel_rfl)) (fun _ _ _ _ _ => (pg_tupK (K := K) (n := 2) rfl (pgs_cons (pg_name (i := 5) sc_Hall___init__.nd rfl (.inl rfl)) (pgs_cons (pg_name (i := 12) sc_Hall___init__.nd rfl (.inl rfl)) pgs_nil)))) (fun _ _ _ _ _ => pts_nil)
      (fun _ _ _ _ _ => (pv 5))) pa_nil)) rfl)
  (pss_cons (ps_fld (pv 0) (pe_lc (own := [("name", 5), ("_", 12)]) rfl sc_Hall___init__.nd (pi_seqW (K := K) (pv 4)) (blkOk_by (by kernel_rfl)) (fun _ _ _ _ _ => (pg_tupK (K := K) (n := 3) rfl (pgs_cons (pg_name (i := 5) sc_Hall___init__.nd rfl (.inl rfl)) (pgs_cons (pg_name (i := 12) sc_Hall___init__.nd rfl (.inl rfl)) (pgs_cons (pg_name (i := 12) sc_Hall___init__.nd rfl (.inl rfl)) pgs_nil))))) (fun _ _ _ _ _ => pts_nil)
      (fun _ _ _ _ _ => (pv 5))) rfl)
  (pss_cons (ps_fld (pv 0) (pe_dc (own := [("name", 5), ("heft", 6)]) rfl sc_Hall___init__.nd (pi_seqW (K := K) (pv 3)) (blkOk_by (by kernel_rfl)) (fun _ _ _ _ _ => (pg_tupK (K := K) (n := 2) rfl (pgs_cons (pg_name (i := 5) sc_Hall___init__.nd rfl (.inl rfl)) (pgs_cons (pg_name (i := 6) sc_Hall___init__.nd rfl (.inl rfl)) pgs_nil)))) (fun _ _ _ _ _ => pts_nil)
      (fun _ _ _ _ _ => (pv 5))
      (fun _ _ _ _ _ => (pv 6))) rfl)
  (pss_cons (ps_fld (pv 0) pe_dnewK rfl)
  (pss_one (ps_for PassesOwn.never rfl (pi_seqW (K := K) (pv 4)) (pg_tupK (K := K) (n := 3) rfl (pgs_cons (pg_name (i := 5) sc_Hall___init__.nd rfl (.inl rfl)) (pgs_cons (pg_name (i := 6) sc_Hall___init__.nd rfl (.inl rfl)) (pgs_cons (pg_name (i := 7) sc_Hall___init__.nd rfl (.inl rfl)) pgs_nil))))
    (pss_cons (ps_dput hu (pe_fld (pv 0) rfl) (pv 5) (pv 6) rfl)
  (pss_one (ps_dput hu (pe_fld (pv 0) rfl) (pv 5) (pv 7) rfl)))))))))))), ?_⟩
    -- the rooms
    refine ⟨.ref r, rfl, r, rooms, rfl, hr0, by rw [rp.length_eq]; have := ok.r2; omega, fun ys p1 yp ysort n1 => ?_⟩
    have hp1 : N p1 := hN _ (.inl n1)
    have ey : ys = x.rooms := sort_texts ysort ok.r3 (yp.trans rp)
    subst ey
    refine ⟨.ref m, rfl, m, C, dx, [], rfl, same_new n1 _ _ hm, TH.cl, TH.n_rooms, by show 0 < 1000; decide, ?_⟩
    have z1 : ExtM m H (upd (upd H p1 (.lst (x.rooms.map V.str))) m (.ins C dx (putF "_rooms" (.ref p1) []))) := ExtM.at (fun z o _ e _ => same_new n1 z o e)
    have m1 : (upd (upd H p1 (.lst (x.rooms.map V.str))) m (.ins C dx (putF "_rooms" (.ref p1) []))) m = some (.ins C dx (putF "_rooms" (.ref p1) [])) := upd_same
    have pm1 : p1 ≠ m := fun z => by rw [z, hm] at n1; cases n1
    have r1 : (upd (upd H p1 (.lst (x.rooms.map V.str))) m (.ins C dx (putF "_rooms" (.ref p1) []))) p1 = some (.lst (x.rooms.map V.str)) := by rw [upd_ne pm1]; exact upd_same
    have T1 : LamX.Tabs TT (upd (upd H p1 (.lst (x.rooms.map V.str))) m (.ins C dx (putF "_rooms" (.ref p1) []))) := tabs_at (hT.ext fun z o e => same_new n1 z o e) (same_new n1 _ _ hm)
    generalize upd (upd H p1 (.lst (x.rooms.map V.str))) m (.ins C dx (putF "_rooms" (.ref p1) [])) = G1 at z1 m1 r1 T1
    -- the doors
    have hl : dvs.length = ds.length := Paired.length pd
    have zf : ((dvs.zip ds).map fun z : V × DoorH => (z.1, z.2.name)).map Prod.fst = dvs := by
      rw [List.map_map]
      exact List.map_fst_zip (by omega)
    have dnd : (x.doors.map DoorH.name).Nodup := by
      have := ok.n1
      unfold HallH.names at this
      exact (List.nodup_append.mp (List.nodup_append.mp (List.nodup_append.mp this).2.1).2.1).2.1
    have rnd : x.rooms.Nodup := by
      have := ok.n1
      unfold HallH.names at this
      exact (List.nodup_append.mp this).1
    refine ⟨.ref d, rfl, d, (dvs.zip ds).map fun z : V × DoorH => (z.1, z.2.name), rfl, T1, fun G2 eN T2 => ?_⟩
    have z2 : ExtM m H G2 := z1.trans (ExtM.ext eN)
    have m2 := eN _ _ m1 fun _ z => by cases z
    have r2 := eN _ _ r1 fun _ z => by cases z
    refine ⟨?_, fun z hz => ?_, fun D2 n2 => ?_⟩
    · rw [zf]
      rcases hd0 with h | h
      · exact .inl (ExtM.sqL hm z2 _ _ h)
      · exact .inr (ExtM.sqT hm z2 _ _ h)
    · obtain ⟨z0, hz0, rfl⟩ := List.mem_map.mp hz
      obtain ⟨iz, hiz, ez⟩ := List.getElem_of_mem hz0
      have f1 : dvs[iz]? = some z0.1 := by
        have := congrArg (Option.map Prod.fst) ((List.getElem?_eq_getElem hiz).trans (congrArg some ez))
        rw [← List.getElem?_map, List.map_fst_zip (by omega)] at this
        exact this
      have f2 : ds[iz]? = some z0.2 := by
        have := congrArg (Option.map Prod.snd) ((List.getElem?_eq_getElem hiz).trans (congrArg some ez))
        rw [← List.getElem?_map, List.map_snd_zip (by omega)] at this
        exact this
      obtain ⟨dd, g1, g2⟩ := LiI.paired_get pd f1
      rw [f2] at g1
      cases g1
      obtain ⟨t, tt, one, other, rows, rvs, e1, e2, _⟩ := g2
      exact ⟨t, _, e1, ExtM.sqT hm z2 _ _ e2⟩
    · obtain ⟨vs0, ev, pd0⟩ := pairs_sorted pd dp ok.d3 dnd
      rw [ev]
      have l0 : vs0.length = x.doors.length := Paired.length pd0
      have dl : x.doors.length ≤ 60 := Nat.le_trans ok.d2 b2
      have m3 := same_new n2 (o := .lst vs0) _ _ m2
      have r3 := same_new n2 (o := .lst vs0) _ _ r2
      have z3 : ExtM m H (upd G2 D2 (.lst vs0)) := z2.trans fun z o _ e _ => same_new n2 z o e
      have T3 : LamX.Tabs TT (upd G2 D2 (.lst vs0)) := T2.ext (same_new n2)
      have d3 : (upd G2 D2 (.lst vs0)) D2 = some (.lst vs0) := upd_same
      generalize upd G2 D2 (.lst vs0) = G3 at m3 r3 z3 T3 d3
      refine ⟨D2, rfl, ⟨_, .inl (.inl d3)⟩, fun DD nDD => ?_⟩
      have hDD : N DD := hN _ (extM_new z3 m3 (.inl nDD))
      have s4 := same_new nDD (o := .dK [])
      refine dc_walk (walk_list (a := D2) (xs := vs0)) (fun i Z => ∃ dkv, Z DD = some (.dK dkv) ∧ DqKv anyA K Z dkv (doorsKv (x.doors.take i)) ∧ ExtM m H Z ∧ LamX.Tabs TT Z ∧ Z m = some (.ins C dx (putF "_rooms" (.ref p1) [])) ∧ Z p1 = some (.lst (x.rooms.map V.str)) ∧ Z D2 = some (.lst vs0))
        ⟨[], upd_same, .nil, z3.trans fun z o _ e _ => s4 z o e, T3.ext s4, s4 _ _ m3, s4 _ _ r3, s4 _ _ d3⟩ (fun i Z _ pv => ?_) (fun i v Z Z' hi pv hy => ?_) (fun Z pv => ?_)
      · obtain ⟨dkv, a1, a2, a3, a4, a5, a6, a7⟩ := pv
        exact .inl (.inl a7)
      · obtain ⟨rfl, hv⟩ := hy
        obtain ⟨dkv, a1, a2, a3, a4, a5, a6, a7⟩ := pv
        obtain ⟨dd, hdd, t, tt, one, other, rows, rvs, rfl, e2, ends, rperm, rdq, rsq⟩ := LiI.paired_get pd0 hv
        have ddm : dd ∈ x.doors := List.mem_of_getElem? hdd
        have dok := ok.d4 dd ddm
        have hid : i < x.doors.length := by omega
        refine ⟨t, _, rfl, ExtM.sqT hm a3 _ _ e2, rfl, _, _, rfl, _, _, rfl, _, _, rfl, _, _, rfl, _, _, rfl, rfl, by kernel_rfl, yes_if ?_⟩
        refine ⟨.str dd.name, by kernel_rfl, .str one, by kernel_rfl, .str other, by kernel_rfl, .str dd.way, by kernel_rfl, .ref tt, by kernel_rfl, anyA, one, other, dd.way, dd.one, dd.other, tt, rvs, rows, dd.rows, rfl, ?_, ?_, rperm, ?_, ?_, ?_, fun a na => trivial, a4, ends, ?_, fun t' Z2 eZ T' nt' dqd => ?_⟩
        · rcases rsq with h | h
          · exact .inl (ExtM.sqL hm a3 _ _ h)
          · exact .inr (ExtM.sqT hm a3 _ _ h)
        · exact DqAll.sq (fun _ z => z) (ExtM.sqL hm a3) (ExtM.sqT hm a3) _ _ (rows_noDict rows) rdq
        · rw [rperm.length_eq]; have := dok.rows.few; omega
        · exact sorted_sub ok.r3 dok.rows.sub
        · exact rnd.sublist dok.rows.sub
        · intro wb
          rcases dok.way with ⟨_, h⟩ | h
          · exact h
          · rw [h] at wb
            exact absurd wb (by decide)
        · have dkl : dkv.length = i := by
            have := congrArg List.length (doorsKv_keys a2)
            rw [List.length_map, List.length_map, List.length_take] at this
            omega
          have fresh : valV dkv (.inr dd.name) = none := doors_fresh a2 (by
            have e := (List.getElem?_eq_some_iff.mp hdd).2
            have hn' : i < (x.doors.map DoorH.name).length := by rw [List.length_map]; exact hid
            have := not_in_take dnd hn'
            rw [List.getElem_map, e] at this
            rw [List.map_take]
            exact this)
          have b1' := eZ _ _ a1 fun _ z => by cases z
          have nm1 : DD ≠ m := fun z => by rw [z, a5] at a1; cases a1
          have nm2 : DD ≠ p1 := fun z => by rw [z, a6] at a1; cases a1
          have nm3 : DD ≠ D2 := fun z => by rw [z, a7] at a1; cases a1
          refine ⟨dkv, .inr dd.name, rfl, b1', small1000000 (by omega), _, upd_same, ?_, ?_, tabs_dk T' b1', ?_, ?_, ?_⟩
          · rw [putK_new _ fresh, take_snoc hdd]
            have e : doorsKv (x.doors.take i ++ [dd]) = doorsKv (x.doors.take i) ++ [(keyD (.inr dd.name), dd.data)] := by
              unfold doorsKv
              rw [List.map_append]
              rfl
            have sqz : ∀ a xs, SqT K Z2 a xs → SqT K (upd Z2 DD (.dK (dkv ++ [(.inr dd.name, .ref t')]))) a xs := fun a xs h => by
              rcases h with (h | ⟨u, h⟩) | h
              · exact .inl (.inl (by rw [upd_ne (fun z => by rw [z, b1'] at h; cases h)]; exact h))
              · exact .inl (.inr ⟨u, by rw [upd_ne (fun z => by rw [z, b1'] at h; cases h)]; exact h⟩)
              · exact .inr h
            have sqy : ∀ a xs, SqL K Z2 a xs → SqL K (upd Z2 DD (.dK (dkv ++ [(.inr dd.name, .ref t')]))) a xs := fun a xs h => by
              rcases h with (h | ⟨u, h⟩) | h
              · exact .inl (.inl (by rw [upd_ne (fun z => by rw [z, b1'] at h; cases h)]; exact h))
              · exact .inl (.inr ⟨u, by rw [upd_ne (fun z => by rw [z, b1'] at h; cases h)]; exact h⟩)
              · exact .inr h
            refine DqKv.sq (H := Z2) (fun _ z => z) sqy sqz _ _ ?_
            rw [e]
            exact DqKv.snoc (DqKv.sq (fun _ z => z) (fun a xs h => ext_sqL eZ h) (fun a xs h => ext_sqT eZ h) _ _ a2) dqd
          · intro z o nz ez tz
            have n' : z ≠ DD := fun w => by
              rw [w] at ez nz
              have := z3 DD o nz ez tz
              rw [this] at nDD
              cases nDD
            rw [upd_ne n']
            exact eZ _ _ (a3 z o nz ez tz) tz
          · rw [upd_ne nm1.symm]; exact eZ _ _ a5 fun _ z => by cases z
          · rw [upd_ne nm2.symm]; exact eZ _ _ a6 fun _ z => by cases z
          · rw [upd_ne nm3.symm]; exact eZ _ _ a7 fun _ z => by cases z
      · obtain ⟨dkv, a1, a2, a3, a4, a5, a6, a7⟩ := pv
        rw [l0, List.take_length] at a2
        have nm1 : DD ≠ m := fun z => by rw [z, a5] at a1; cases a1
        have nm2 : p1 ≠ m := fun z => by rw [z, a5] at a6; cases a6
        refine ⟨.ref m, rfl, m, C, dx, _, rfl, a5, TH.cl, TH.n_doors, by show 1 < 1000; decide, ?_⟩
        have e4 : ExtM m Z (upd Z m (.ins C dx (putF "_doors" (.ref DD) (putF "_rooms" (.ref p1) [])))) := ExtM.at ExtM.refl
        have z4 := a3.trans e4
        have m4 : (upd Z m (.ins C dx (putF "_doors" (.ref DD) (putF "_rooms" (.ref p1) [])))) m = some (.ins C dx (putF "_doors" (.ref DD) (putF "_rooms" (.ref p1) []))) := upd_same
        have d4 := e4 _ _ nm1 a1 (fun _ z => by cases z)
        have r4 := e4 _ _ nm2 a6 (fun _ z => by cases z)
        have q4 := DqKv.sq (fun _ z => z) (ExtM.sqL a5 e4) (ExtM.sqT a5 e4) _ _ a2
        have T4 := tabs_at (o := .ins C dx (putF "_doors" (.ref DD) (putF "_rooms" (.ref p1) []))) a4 a5
        clear e4
        generalize upd Z m (.ins C dx (putF "_doors" (.ref DD) (putF "_rooms" (.ref p1) []))) = G4 at z4 m4 d4 r4 q4 T4
        -- the doors that lead from each room
        refine ⟨.ref m, rfl, m, C, dx, _, .ref p1, rfl, m4, TH.cl, TH.n_rooms, by rfl, .ref m, rfl, m, C, dx, _, .ref DD, rfl, m4, TH.cl, TH.n_doors, by rfl, ?_⟩
        refine ⟨N, p1, DD, x.rooms, dkv, x.doors, rfl, r4, d4, q4, rnd, Nat.le_trans ok.r2 b1, dl, fun z hz => ⟨(ok.d4 z hz).one, (ok.d4 z hz).other⟩, fun a na => hN a (extM_new z4 m4 (.inl na)), fun ld G5 s5 n5 la5 => ?_⟩
        have hld : N ld := hN _ (extM_new z4 m4 (.inl n5))
        refine ⟨.ref m, rfl, m, C, dx, _, rfl, s5 _ _ m4, TH.cl, TH.n_leads, by show 2 < 1000; decide, ?_⟩
        have c5 : Core N K x p1 DD ld G5 := ⟨s5 _ _ r4, ⟨dkv, s5 _ _ d4, DqKv.sq (fun _ z => z) (fun a xs h => sqL_at (fun o => s5 _ o) h) (fun a xs h => sqT_at (fun o => s5 _ o) h) _ _ q4⟩, la5⟩
        have z5 := z4.trans (ExtM.same s5)
        have T5 := T4.ext s5
        have m5 := s5 _ _ m4
        have e6 : ExtM m G5 (upd G5 m (.ins C dx (putF "_leads" (.ref ld) (putF "_doors" (.ref DD) (putF "_rooms" (.ref p1) []))))) := ExtM.at ExtM.refl
        have z6 := z5.trans e6
        have c6 := c5.up m5 e6
        have T6 := tabs_at (o := .ins C dx (putF "_leads" (.ref ld) (putF "_doors" (.ref DD) (putF "_rooms" (.ref p1) [])))) T5 m5
        have m6 : (upd G5 m (.ins C dx (putF "_leads" (.ref ld) (putF "_doors" (.ref DD) (putF "_rooms" (.ref p1) []))))) m = some (.ins C dx (putF "_leads" (.ref ld) (putF "_doors" (.ref DD) (putF "_rooms" (.ref p1) [])))) := upd_same
        clear e6 la5 s5
        generalize upd G5 m (.ins C dx (putF "_leads" (.ref ld) (putF "_doors" (.ref DD) (putF "_rooms" (.ref p1) [])))) = G6 at z6 c6 T6 m6
        have sqm : ∀ {a xs G}, ExtM m H G → Sq K H a xs → Sq K G a xs := fun {a xs G} e h => h.elim (fun h => .inl (ExtM.sqL hm e _ _ h)) fun h => .inr (ExtM.sqT hm e _ _ h)
        have sl : svs.length = sn.length := by rw [sq.length, List.length_map]
        have sl2 : sn.length ≤ 60 := by rw [sp.length_eq]; have := ok.s2; omega
        have wl1 : wvs.length = x.walkers.length := by rw [wq.length, List.length_map]
        have wl2 : x.walkers.length ≤ 60 := Nat.le_trans ok.w2 b4
        have sget : ∀ {i : Nat} {v : V}, svs[i]? = some v → ∃ (z : Str × Int) (t : Addr), sn[i]? = some z ∧ v = .ref t ∧ SqT K H t [.str z.1, .int z.2] := fun {i v} hv => by
          obtain ⟨dd, hdd, dqv⟩ := sq.get hv
          rw [List.getElem?_map] at hdd
          obtain ⟨z, hz, rfl⟩ := Option.map_eq_some_iff.mp hdd
          obtain ⟨t, rfl, _, et⟩ := stone_inv dqv
          exact ⟨z, t, hz, rfl, et⟩
        have wget : ∀ {i : Nat} {v : V}, wvs[i]? = some v → ∃ (z : WalkH) (t : Addr), x.walkers[i]? = some z ∧ v = .ref t ∧ SqT K H t [.str z.name, .int z.heft, .int z.hands] := fun {i v} hv => by
          obtain ⟨dd, hdd, dqv⟩ := wq.get hv
          rw [List.getElem?_map] at hdd
          obtain ⟨z, hz, rfl⟩ := Option.map_eq_some_iff.mp hdd
          obtain ⟨t, rfl, _, et⟩ := walk_inv dqv
          exact ⟨z, t, hz, rfl, et⟩
        -- the stones
        refine ⟨.ref st, rfl, st, svs, rfl, sqm z6 hs0, fun J JG wk gG D7 n7 => ?_⟩
        refine lc_it wk (fun i Z => Same G6 Z ∧ Z D7 = some (.lst ((sn.take i).map fun z => V.str z.1))) ⟨same_new n7, upd_same⟩ (fun i Z _ pv => gG Z (fun ys h => sqL_at (fun o => pv.1 _ o) h) fun ys h => sqT_at (fun o => pv.1 _ o) h) (fun i v Z Z' hi pv hy => ?_) (fun Z pv => ?_)
        · obtain ⟨rfl, hv⟩ := hy
          obtain ⟨s7, g7⟩ := pv
          obtain ⟨z, t, hz, rfl, et⟩ := sget hv
          refine ⟨t, _, rfl, ExtM.sqT hm (z6.trans (ExtM.same s7)) _ _ et, rfl, _, _, rfl, _, _, rfl, rfl, by kernel_rfl, yes_if ?_⟩
          refine ⟨_, rfl, _, g7, ?_, same_mut s7 n7, ?_⟩
          · rw [List.length_map, List.length_take]
            exact small1000000 (by omega)
          · rw [upd_same, take_snoc hz, List.map_append]
            rfl
        obtain ⟨s7, g7⟩ := pv
        rw [sl, List.take_length] at g7
        refine ⟨D7, sn.map Prod.fst, rfl, .inl (.inl (.inl (by rw [List.map_map]; exact g7))), by rw [List.length_map]; omega, fun ys p8 yp ysort n8 => ?_⟩
        have hp8 : N p8 := hN _ (extM_new (z6.trans (ExtM.same s7)) (s7 _ _ m6) (.inl n8))
        have ey : ys = x.stones.map Prod.fst := sort_texts ysort ok.s3 (yp.trans (sp.map _))
        subst ey
        have s8 := s7.trans (same_new n8 (o := .lst ((x.stones.map Prod.fst).map V.str)))
        have g8 : (upd Z p8 (.lst ((x.stones.map Prod.fst).map V.str))) p8 = some (.lst (x.stones.map fun z => V.str z.1)) := by rw [upd_same, List.map_map]; rfl
        generalize upd Z p8 (.lst ((x.stones.map Prod.fst).map V.str)) = G8 at s8 g8
        refine ⟨.ref m, rfl, m, C, dx, _, rfl, s8 _ _ m6, TH.cl, TH.n_stones, by show 3 < 1000; decide, ?_⟩
        have m8 := s8 _ _ m6
        have e9 : ExtM m G8 (upd G8 m (.ins C dx (putF "_stones" (.ref p8) (putF "_leads" (.ref ld) (putF "_doors" (.ref DD) (putF "_rooms" (.ref p1) [])))))) := ExtM.at ExtM.refl
        have z9 := (z6.trans (ExtM.same s8)).trans e9
        have c9 := (c6.up m6 (ExtM.same s8)).up m8 e9
        have T9 := tabs_at (o := .ins C dx (putF "_stones" (.ref p8) (putF "_leads" (.ref ld) (putF "_doors" (.ref DD) (putF "_rooms" (.ref p1) []))))) (T6.ext s8) m8
        have m9 : (upd G8 m (.ins C dx (putF "_stones" (.ref p8) (putF "_leads" (.ref ld) (putF "_doors" (.ref DD) (putF "_rooms" (.ref p1) [])))))) m = some (.ins C dx (putF "_stones" (.ref p8) (putF "_leads" (.ref ld) (putF "_doors" (.ref DD) (putF "_rooms" (.ref p1) []))))) := upd_same
        have g9 := e9 _ _ (fun z => by rw [z, m8] at g8; cases g8) g8 (fun _ z => by cases z)
        clear e9 g7 s7 s8 m8 g8 n8
        generalize upd G8 m (.ins C dx (putF "_stones" (.ref p8) (putF "_leads" (.ref ld) (putF "_doors" (.ref DD) (putF "_rooms" (.ref p1) []))))) = G9 at z9 c9 T9 m9 g9
        -- the walkers
        refine ⟨.ref wl, rfl, wl, wvs, rfl, sqm z9 hw0, fun J JG wk gG D10 n10 => ?_⟩
        have hD10 : N D10 := hN _ (extM_new z9 m9 (.inl n10))
        refine lc_it wk (fun i Z => Same G9 Z ∧ Z D10 = some (.lst ((x.walkers.take i).map fun z => V.str z.name))) ⟨same_new n10, upd_same⟩ (fun i Z _ pv => gG Z (fun ys h => sqL_at (fun o => pv.1 _ o) h) fun ys h => sqT_at (fun o => pv.1 _ o) h) (fun i v Z Z' hi pv hy => ?_) (fun Z pv => ?_)
        · obtain ⟨rfl, hv⟩ := hy
          obtain ⟨s7, g7⟩ := pv
          obtain ⟨z, t, hz, rfl, et⟩ := wget hv
          refine ⟨t, _, rfl, ExtM.sqT hm (z9.trans (ExtM.same s7)) _ _ et, rfl, _, _, rfl, _, _, rfl, _, _, rfl, rfl, by kernel_rfl, yes_if ?_⟩
          refine ⟨_, rfl, _, g7, ?_, same_mut s7 n10, ?_⟩
          · rw [List.length_map, List.length_take]
            exact small1000000 (by omega)
          · rw [upd_same, take_snoc hz, List.map_append]
            rfl
        obtain ⟨s10, g10⟩ := pv
        rw [wl1, List.take_length] at g10
        refine ⟨.ref m, rfl, m, C, dx, _, rfl, s10 _ _ m9, TH.cl, TH.n_walkers, by show 4 < 1000; decide, ?_⟩
        have m10 := s10 _ _ m9
        have e11 : ExtM m Z (upd Z m (.ins C dx (putF "_walkers" (.ref D10) (putF "_stones" (.ref p8) (putF "_leads" (.ref ld) (putF "_doors" (.ref DD) (putF "_rooms" (.ref p1) []))))))) := ExtM.at ExtM.refl
        have z11 := (z9.trans (ExtM.same s10)).trans e11
        have c11 := (c9.up m9 (ExtM.same s10)).up m10 e11
        have T11 := tabs_at (o := .ins C dx (putF "_walkers" (.ref D10) (putF "_stones" (.ref p8) (putF "_leads" (.ref ld) (putF "_doors" (.ref DD) (putF "_rooms" (.ref p1) [])))))) (T9.ext s10) m10
        have m11 : (upd Z m (.ins C dx (putF "_walkers" (.ref D10) (putF "_stones" (.ref p8) (putF "_leads" (.ref ld) (putF "_doors" (.ref DD) (putF "_rooms" (.ref p1) []))))))) m = some (.ins C dx (putF "_walkers" (.ref D10) (putF "_stones" (.ref p8) (putF "_leads" (.ref ld) (putF "_doors" (.ref DD) (putF "_rooms" (.ref p1) [])))))) := upd_same
        have g11 := e11 _ _ (fun z => by have := s10 _ _ g9; rw [z, m10] at this; cases this) (s10 _ _ g9) (fun _ z => by cases z)
        have w11 := e11 _ _ (fun z => by rw [z, m10] at g10; cases g10) g10 (fun _ z => by cases z)
        clear e11 s10 m10 g10
        generalize upd Z m (.ins C dx (putF "_walkers" (.ref D10) (putF "_stones" (.ref p8) (putF "_leads" (.ref ld) (putF "_doors" (.ref DD) (putF "_rooms" (.ref p1) [])))))) = G11 at z11 c11 T11 m11 g11 w11
        -- the hefts of the stones
        refine ⟨.ref st, rfl, st, svs, rfl, sqm z11 hs0, fun J JG wk gG fh n12 => ?_⟩
        have hfh : N fh := hN _ (extM_new z11 m11 (.inl n12))
        have snd' : (sn.map Prod.fst).Nodup := (sp.map Prod.fst).nodup_iff.mpr (by
          have := heftL_nodup ok.n1
          unfold heftL at this
          rw [List.map_append] at this
          exact (List.nodup_append.mp this).1)
        refine dc_walk wk (fun i Z => Same G11 Z ∧ Z fh = some (.dK (stonesKv (sn.take i)))) ⟨same_new n12, upd_same⟩ (fun i Z _ pv => gG Z (fun ys h => sqL_at (fun o => pv.1 _ o) h) fun ys h => sqT_at (fun o => pv.1 _ o) h) (fun i v Z Z' hi pv hy => ?_) (fun Z pv => ?_)
        · obtain ⟨rfl, hv⟩ := hy
          obtain ⟨s7, g7⟩ := pv
          obtain ⟨z, t, hz, rfl, et⟩ := sget hv
          refine ⟨t, _, rfl, ExtM.sqT hm (z11.trans (ExtM.same s7)) _ _ et, rfl, _, _, rfl, _, _, rfl, rfl, by kernel_rfl, yes_if ?_⟩
          refine ⟨.str z.1, rfl, .int z.2, rfl, _, .inr z.1, rfl, g7, ?_, same_mut s7 n12, ?_⟩
          · unfold stonesKv
            rw [List.length_map, List.length_take]
            exact small1000000 (by omega)
          · rw [upd_same, putK_new _ (valV_off (by
              rw [stonesKv_keys]
              intro mm
              have m2 := inr_in mm
              rw [List.map_take] at m2
              have hi2 : i < (sn.map Prod.fst).length := by rw [List.length_map]; exact (List.getElem?_eq_some_iff.mp hz).1
              have := not_in_take snd' hi2
              rw [List.getElem_map, (List.getElem?_eq_some_iff.mp hz).2] at this
              exact this m2)), take_snoc hz]
            unfold stonesKv
            rw [List.map_append]
            rfl
        obtain ⟨s12, g12⟩ := pv
        rw [sl, List.take_length] at g12
        refine ⟨.ref m, rfl, m, C, dx, _, rfl, s12 _ _ m11, TH.cl, TH.n_hefts, by show 5 < 1000; decide, ?_⟩
        have m12 := s12 _ _ m11
        have nfm : fh ≠ m := fun z => by rw [z, m12] at g12; cases g12
        have e13 : ExtM m G11 (upd Z m (.ins C dx (putF "_hefts" (.ref fh) (putF "_walkers" (.ref D10) (putF "_stones" (.ref p8) (putF "_leads" (.ref ld) (putF "_doors" (.ref DD) (putF "_rooms" (.ref p1) [])))))))) := ExtM.at (ExtM.same s12)
        have m13 : (upd Z m (.ins C dx (putF "_hefts" (.ref fh) (putF "_walkers" (.ref D10) (putF "_stones" (.ref p8) (putF "_leads" (.ref ld) (putF "_doors" (.ref DD) (putF "_rooms" (.ref p1) [])))))))) m = some (.ins C dx (putF "_hefts" (.ref fh) (putF "_walkers" (.ref D10) (putF "_stones" (.ref p8) (putF "_leads" (.ref ld) (putF "_doors" (.ref DD) (putF "_rooms" (.ref p1) []))))))) := upd_same
        have g13 : (upd Z m (.ins C dx (putF "_hefts" (.ref fh) (putF "_walkers" (.ref D10) (putF "_stones" (.ref p8) (putF "_leads" (.ref ld) (putF "_doors" (.ref DD) (putF "_rooms" (.ref p1) [])))))))) fh = some (.dK (stonesKv sn)) := by rw [upd_ne nfm]; exact g12
        have T13 := tabs_at (o := .ins C dx (putF "_hefts" (.ref fh) (putF "_walkers" (.ref D10) (putF "_stones" (.ref p8) (putF "_leads" (.ref ld) (putF "_doors" (.ref DD) (putF "_rooms" (.ref p1) []))))))) (T11.ext s12) m12
        clear s12 m12 g12
        generalize upd Z m (.ins C dx (putF "_hefts" (.ref fh) (putF "_walkers" (.ref D10) (putF "_stones" (.ref p8) (putF "_leads" (.ref ld) (putF "_doors" (.ref DD) (putF "_rooms" (.ref p1) []))))))) = G13 at e13 m13 g13 T13
        -- the hands
        intro hh n14
        have hhh : N hh := hN _ (extM_new (z11.trans e13) m13 (.inl n14))
        have s14 := same_new n14 (o := .dK [])
        refine ⟨.ref m, rfl, m, C, dx, _, rfl, s14 _ _ m13, TH.cl, TH.n_hands, by show 6 < 1000; decide, ?_⟩
        have h14 : (upd G13 hh (.dK [])) hh = some (.dK []) := upd_same
        have nhm : hh ≠ m := fun z => by rw [z, m13] at n14; cases n14
        have nhf : hh ≠ fh := fun z => by rw [z, g13] at n14; cases n14
        have T14 := T13.ext s14
        have m14 := s14 _ _ m13
        have g14 := s14 _ _ g13
        have z14 : ExtM m H (upd G13 hh (.dK [])) := z11.trans (e13.trans (ExtM.same s14))
        have u14 : ∀ b o, b ≠ m → G11 b = some o → (∀ ps, o ≠ .tbl ps) → (upd G13 hh (.dK [])) b = some o ∧ b ≠ fh ∧ b ≠ hh := fun b o nb eb nt =>
          ⟨s14 _ _ (e13 _ _ nb eb nt), (fun z => by rw [z, n12] at eb; cases eb), (fun z => by rw [z] at eb nb; rw [e13 _ _ nb eb nt] at n14; cases n14)⟩
        clear e13 s14 m13 g13 n14
        generalize upd G13 hh (.dK []) = G14 at T14 m14 g14 z14 u14 h14
        have m15 := m14
        rw [show putF "_hands" (V.ref hh) (putF "_hefts" (.ref fh) (putF "_walkers" (.ref D10) (putF "_stones" (.ref p8) (putF "_leads" (.ref ld) (putF "_doors" (.ref DD) (putF "_rooms" (.ref p1) [])))))) = hallF p1 DD ld p8 D10 fh hh from rfl]
        have nm14 : (upd G14 m (.ins C dx (hallF p1 DD ld p8 D10 fh hh))) m = some (.ins C dx (hallF p1 DD ld p8 D10 fh hh)) := upd_same
        have e15 : ExtM m G14 (upd G14 m (.ins C dx (hallF p1 DD ld p8 D10 fh hh))) := ExtM.at ExtM.refl
        have z15 := z14.trans e15
        have f15 := e15 _ _ nfm g14 (fun _ z => by cases z)
        have h15 := e15 _ _ nhm h14 (fun _ z => by cases z)
        have T15 := tabs_at (o := .ins C dx (hallF p1 DD ld p8 D10 fh hh)) T14 m14
        have u15 : ∀ b o, b ≠ m → G11 b = some o → (∀ ps, o ≠ .tbl ps) → (upd G14 m (.ins C dx (hallF p1 DD ld p8 D10 fh hh))) b = some o ∧ b ≠ fh ∧ b ≠ hh := fun b o nb eb nt =>
          ⟨e15 _ _ nb (u14 b o nb eb nt).1 nt, (u14 b o nb eb nt).2⟩
        clear e15 m15 z14 g14 h14 T14 m14 u14
        generalize upd G14 m (.ins C dx (hallF p1 DD ld p8 D10 fh hh)) = G15 at nm14 z15 f15 h15 T15 u15
        refine ⟨.ref wl, rfl, wl, wvs, rfl, sqm z15 hw0, fun J JG wk gG => ?_⟩
        have wnd : (x.walkers.map WalkH.name).Nodup := by
          have := handL_nodup ok.n1
          unfold handL at this
          rw [List.map_map] at this
          exact this
        have hnd := heftL_nodup ok.n1
        have hp : ∀ i, (sn ++ (x.walkers.take i).map fun z => (z.name, z.heft)).length ≤ 200 := fun i => by
          rw [List.length_append, List.length_map, List.length_take]
          omega
        refine for_it wk (fun i σ Z => ∃ d5 d6 d7 : Option V, σ = [some (.ref m), some (.ref r), some (.ref d), some (.ref st), some (.ref wl), d5, d6, d7, none, none, none, none, none] ∧ Z m = some (.ins C dx (hallF p1 DD ld p8 D10 fh hh)) ∧
          Z fh = some (.dK (stonesKv (sn ++ (x.walkers.take i).map fun z => (z.name, z.heft)))) ∧ Z hh = some (.dK (stonesKv ((x.walkers.take i).map fun z => (z.name, z.hands)))) ∧ (∀ b o, b ≠ fh → b ≠ hh → G15 b = some o → Z b = some o) ∧ LamX.Tabs TT Z)
          ⟨_, _, _, rfl, nm14, by rw [List.take_zero, List.map_nil, List.append_nil]; exact f15, h15, fun _ _ _ _ e => e, T15⟩ (fun i σ Z _ pv => ?_) (fun i v σ Z Z' hi pv hy => ?_) (fun σ Z pv => ?_)
        · obtain ⟨_, _, _, _, _, _, _, u, _⟩ := pv
          refine gG Z (fun ys h => ?_) fun ys h => ?_
          · rcases h with (h | ⟨o, h⟩) | h
            · exact .inl (.inl (u _ _ (fun z => by rw [z, f15] at h; cases h) (fun z => by rw [z, h15] at h; cases h) h))
            · exact .inl (.inr ⟨o, u _ _ (fun z => by rw [z, f15] at h; cases h) (fun z => by rw [z, h15] at h; cases h) h⟩)
            · exact .inr h
          · rcases h with (h | ⟨o, h⟩) | h
            · exact .inl (.inl (u _ _ (fun z => by rw [z, f15] at h; cases h) (fun z => by rw [z, h15] at h; cases h) h))
            · exact .inl (.inr ⟨o, u _ _ (fun z => by rw [z, f15] at h; cases h) (fun z => by rw [z, h15] at h; cases h) h⟩)
            · exact .inr h
        · obtain ⟨rfl, hv⟩ := hy
          obtain ⟨d5, d6, d7, rfl, k1, k2, k3, u, TZ⟩ := pv
          obtain ⟨z, t, hz, rfl, et⟩ := wget hv
          have et2 : SqT K Z' t [.str z.name, .int z.heft, .int z.hands] := by
            rcases ExtM.sqT hm z15 _ _ et with (h | ⟨o, h⟩) | h
            · exact .inl (.inl (u _ _ (fun z => by rw [z, f15] at h; cases h) (fun z => by rw [z, h15] at h; cases h) h))
            · exact .inl (.inr ⟨o, u _ _ (fun z => by rw [z, f15] at h; cases h) (fun z => by rw [z, h15] at h; cases h) h⟩)
            · exact .inr h
          have hiw := (List.getElem?_eq_some_iff.mp hz).1
          have ezw := (List.getElem?_eq_some_iff.mp hz).2
          have fr1 : valV (stonesKv (sn ++ (x.walkers.take i).map fun z => (z.name, z.heft))) (.inr z.name) = none := valV_off (by
            rw [stonesKv_keys]
            intro mm
            have m2 := inr_in mm
            rw [List.map_append, List.map_map] at m2
            unfold heftL at hnd
            rw [List.map_append, List.map_map] at hnd
            rcases List.mem_append.mp m2 with m2 | m2
            · exact (List.nodup_append.mp hnd).2.2 _ ((sp.map Prod.fst).mem_iff.mp m2) z.name (List.mem_map.mpr ⟨z, List.mem_of_getElem? hz, rfl⟩) rfl
            · have hi2 : i < (x.walkers.map WalkH.name).length := by rw [List.length_map]; exact hiw
              have := not_in_take wnd hi2
              rw [List.getElem_map, ezw, ← List.map_take] at this
              exact this m2)
          have fr2 : valV (stonesKv ((x.walkers.take i).map fun z => (z.name, z.hands))) (.inr z.name) = none := valV_off (by
            rw [stonesKv_keys]
            intro mm
            have m2 := inr_in mm
            rw [List.map_map] at m2
            have hi2 : i < (x.walkers.map WalkH.name).length := by rw [List.length_map]; exact hiw
            have := not_in_take wnd hi2
            rw [List.getElem_map, ezw, ← List.map_take] at this
            exact this m2)
          have l1 : (stonesKv (sn ++ (x.walkers.take i).map fun z => (z.name, z.heft))).length < 1000000 := by
            unfold stonesKv
            rw [List.length_map]
            have := hp i
            omega
          have l2 : (stonesKv ((x.walkers.take i).map fun z => (z.name, z.hands))).length < 1000000 := by
            unfold stonesKv
            rw [List.length_map, List.length_map, List.length_take]
            omega
          refine ⟨t, _, rfl, et2, rfl, _, _, rfl, _, _, rfl, _, _, rfl, rfl, ?_⟩
          refine ⟨.int z.heft, rfl, .ref m, rfl, m, C, dx, _, .ref fh, rfl, k1, TH.cl, TH.n_hefts, by rfl, .str z.name, rfl, fh, _, rfl, DPut.k (k := .inr z.name) k2 (small1000000 l1), ?_⟩
          have j1 : (upd Z' fh (.dK (putK (stonesKv (sn ++ (x.walkers.take i).map fun z => (z.name, z.heft))) (.inr z.name) (.int z.heft)))) m = some (.ins C dx (hallF p1 DD ld p8 D10 fh hh)) := by rw [upd_ne nfm.symm]; exact k1
          have j2 : (upd Z' fh (.dK (putK (stonesKv (sn ++ (x.walkers.take i).map fun z => (z.name, z.heft))) (.inr z.name) (.int z.heft)))) fh = some (.dK (stonesKv (sn ++ (x.walkers.take (i + 1)).map fun z => (z.name, z.heft)))) := by
            rw [upd_same, putK_new _ fr1, take_snoc hz]
            unfold stonesKv
            rw [List.map_append, List.map_append, List.map_append, List.map_append, List.append_assoc]
            rfl
          have j3 : (upd Z' fh (.dK (putK (stonesKv (sn ++ (x.walkers.take i).map fun z => (z.name, z.heft))) (.inr z.name) (.int z.heft)))) hh = some (.dK (stonesKv ((x.walkers.take i).map fun z => (z.name, z.hands)))) := by rw [upd_ne nhf]; exact k3
          have j4 : ∀ b o, b ≠ fh → b ≠ hh → G15 b = some o → (upd Z' fh (.dK (putK (stonesKv (sn ++ (x.walkers.take i).map fun z => (z.name, z.heft))) (.inr z.name) (.int z.heft)))) b = some o := fun b o n1 n2 e => by rw [upd_ne n1]; exact u b o n1 n2 e
          have TY := tabs_dk (o := .dK (putK (stonesKv (sn ++ (x.walkers.take i).map fun z => (z.name, z.heft))) (.inr z.name) (.int z.heft))) TZ k2
          generalize upd Z' fh (.dK (putK (stonesKv (sn ++ (x.walkers.take i).map fun z => (z.name, z.heft))) (.inr z.name) (.int z.heft))) = Y at j1 j2 j3 j4 TY
          refine ⟨.int z.hands, rfl, .ref m, rfl, m, C, dx, _, .ref hh, rfl, j1, TH.cl, TH.n_hands, by rfl, .str z.name, rfl, hh, _, rfl, DPut.k (k := .inr z.name) j3 (small1000000 l2), ?_⟩
          refine ⟨_, _, _, rfl, by rw [upd_ne nhm.symm]; exact j1, by rw [upd_ne nhf.symm]; exact j2, ?_, fun b o n1 n2 e => by rw [upd_ne n2]; exact j4 b o n1 n2 e, tabs_dk TY j3⟩
          rw [upd_same, putK_new _ fr2, take_snoc hz]
          unfold stonesKv
          rw [List.map_append, List.map_append]
          rfl
        · obtain ⟨d5, d6, d7, rfl, k1, k2, k3, u, TZ⟩ := pv
          rw [wl1, List.take_length] at k2 k3
          have eF : ExtM m G11 Z := fun b o nb eb nt => by
            obtain ⟨h1, h2, h3⟩ := u15 b o nb eb nt
            exact u b o h2 h3 h1
          have cF := c11.up m11 eF
          obtain ⟨cr, ⟨dkv', cd1, cd2⟩, cl⟩ := cF
          refine q Z (z11.trans eF) TZ ⟨dx, p1, DD, ld, p8, D10, fh, hh, dkv', _, k1, cr, cd1, cd2, ?_, ?_, sp.append_right _, k2, k3, cl, nm, hp1, hDD, hld, hp8, hD10, hfh, hhh⟩
          · exact eF _ _ (fun z => by rw [z, m11] at g11; cases g11) g11 fun _ z => by cases z
          · exact eF _ _ (fun z => by rw [z, m11] at w11; cases w11) w11 fun _ z => by cases z
end
end Wd

set_option Elab.async false
set_option linter.all false
set_option maxRecDepth 100000
set_option maxHeartbeats 4000000
namespace Wd
open PySem PySem.Spec PyProof.Rows L2
abbrev s__law_made : Stmt := topS 28
theorem sc__law_made : FnScope ["hall", "doors", "name"] ["hall"] (C8.fnScope s__law_made) := ⟨rfl, rfl, rfl, by decide +kernel, rfl, by decide +kernel, by decide +kernel⟩
section
variable {P : Program} {w : World} {K : PySem.W.Frag} {mg : Str → Option Value} {base : Heap}
/-- a door with its name ahead, tuples alone -/
def DoorT (K : PySem.W.Frag) (H : Hp) (v : V) (z : DoorH) : Prop := ∃ (t tr : Addr) (rvs : List V), v = .ref t ∧ SqT K H t [.str z.name, .str z.one, .str z.other, .str z.way, .ref tr] ∧ SqT K H tr rvs ∧ DqAll anyA K H rvs (z.rows.map RowH.data)
theorem DoorT.move {K : PySem.W.Frag} {H H' : Hp} {v : V} {z : DoorH} (s : ∀ a xs, SqT K H a xs → SqT K H' a xs) (h : DoorT K H v z) : DoorT K H' v z := by
  obtain ⟨t, tr, rvs, rfl, h1, h2, h3⟩ := h
  exact ⟨t, tr, rvs, rfl, s _ _ h1, s _ _ h2, DqAll.moveT (fun _ z => z) (fun a xs _ h => s a xs h) _ _ (tOnly_map tOnly_row _) h3⟩
theorem DoorT.doorV {K : PySem.W.Frag} {H : Hp} {v : V} {z : DoorH} (h : DoorT K H v z) : DoorV anyA K H v z := by
  obtain ⟨t, tr, rvs, rfl, h1, h2, h3⟩ := h
  exact ⟨t, tr, z.one, z.other, z.rows, rvs, rfl, h1, .inl ⟨rfl, rfl⟩, List.Perm.refl _, h3, .inr h2⟩
def spMade (K : PySem.W.Frag) (TT : List (Addr × Str)) (C : Addr) : Sp := fun vs H Q _ => ∃ (N : Addr → Prop) (h : Addr) (x : HallH) (sr sd ss sw : Nat), vs = [.ref h] ∧ HallAt N K H h x ∧ HallOk sr sd ss sw x ∧ sr ≤ 60 ∧ sd ≤ 60 ∧ ss ≤ 60 ∧ sw ≤ 60 ∧ LamX.Tabs TT H ∧
  ∀ (m : Addr) (Z : Hp), H m = none → LamX.ExtN H Z → LamX.Tabs TT Z → HObj (NewT H) K C Z m x → Q (.ref m) Z
theorem c_made {c : CA} {C : Addr} {TT : List (Addr × Str)} (T : Txt P w K mg base c) (kHall : C8.Mak P w K mg base 5 "Hall" C (spInit K TT C) []) {f : Addr} {fd : FuncData} (F : C8.Def K mg "_law_made" s__law_made f fd) (b : Binds K fd ["hall"] []) : C8.Cal P w K mg base 7 "_law_made" (spMade K TT C) [] := by
  refine C8.cal0 F b .nil sc__law_made (fun vs H Q E h => ?_) (fun cdv A outer s H vs Q E hr h => ?_)
  · obtain ⟨N, h, x, sr, sd, ss, sw, rfl, _⟩ := h
    rfl
  · obtain ⟨N, h, x, sr, sd, ss, sw, rfl, ha, ok, b1, b2, b3, b4, hT, q⟩ := h
    have hu := hu_of hr
    have hu6 := hu64 hr
    refine ⟨_, (pss_cons (ps_lock (ps_setLc (i := 1) rfl sc__law_made.nd rfl rfl (sw_true rfl rfl rfl (by decide +kernel)) (own := [("name", 2)]) (pi_keys (pe_dget hu (pv 0) pe_str (fun _ _ => rfl))) (blkOk_by (by kernel_rfl)) (fun _ _ _ _ _ => (pg_name (i := 2) sc__law_made.nd rfl (.inl rfl))) (fun _ _ _ _ _ => pts_nil)
      (fun _ _ _ _ _ => (pe_op (op_addG (K := K)) (pe_tup (pa_cons (pv 2) pa_nil)) (pe_dget hu (pe_dget hu (pv 0) pe_str (fun _ _ => rfl)) (pv 2) (fun _ _ => rfl))))))
  (pss_one (ps_ret (C8.pe_mk kHall hr (by decide) (by rfl) (pa_cons (pe_callTy (call_list_of) (by rfl) T.b_list bt_list (pa_cons (pe_dget hu (pv 0) pe_str (fun _ _ => rfl)) pa_nil)) (pa_cons (pv 1) (pa_cons (LiI.pe_listItems (by rfl) (pe_dget hu (pv 0) pe_str (fun _ _ => rfl)) (by rfl) T.b_list bt_list) (pa_cons (pe_callTy (call_list_of) (by rfl) T.b_list bt_list (pa_cons (pe_dget hu (pv 0) pe_str (fun _ _ => rfl)) pa_nil)) pa_nil)))))))), ?_⟩
    obtain ⟨d, st, wl, r, dkv, wvs, n1, n2, n3, n4, n5, h1, h2, h3, h4, h5, h6, h7⟩ := ha
    have dnd : (x.doors.map DoorH.name).Nodup := by
      have := ok.n1
      unfold HallH.names at this
      exact (List.nodup_append.mp (List.nodup_append.mp (List.nodup_append.mp this).2.1).2.1).2.1
    have dl : dkv.length = x.doors.length := by
      have := congrArg List.length (doorsKv_keys h3)
      rw [List.length_map, List.length_map] at this
      exact this
    have dl2 : x.doors.length ≤ 60 := Nat.le_trans ok.d2 b2
    refine ⟨d, .dK dkv, h2, trivial, fun od => ?_⟩
    have rh : Rd (upd H d (.frz od (.dK dkv))) h (.dK [(.inr "doors", .ref d), (.inr "stones", .ref st), (.inr "walkers", .ref wl), (.inr "rooms", .ref r)]) := by
      by_cases e : h = d
      · rw [e] at h1 ⊢
        rw [h2] at h1
        cases h1
        exact .inr ⟨od, upd_same⟩
      · exact .inl (by rw [upd_ne e]; exact h1)
    refine ⟨.ref h, rfl, h, .ref d, rfl, .inl ⟨_, .inr "doors", rh, rfl, rfl⟩, d, od, rfl, .inl ⟨dkv, upd_same, fun l nl => ?_⟩⟩
    have nd : l ≠ d := fun z => by rw [z, upd_same] at nl; cases nl
    have nl0 : H l = none := by rw [upd_ne nd] at nl; exact nl
    refine lc_it walk_keys (fun i Z => Z d = some (.frz od (.dK dkv)) ∧ (∀ b u, b ≠ d → H b = some u → Z b = some u) ∧ ∃ vs, Z l = some (.lst vs) ∧ vs.length = i ∧ Paired (DoorT K Z) vs (x.doors.take i))
      ⟨by rw [upd_ne nd.symm]; exact upd_same, fun b u nb e => by rw [upd_ne (fun z => by rw [z, nl0] at e; cases e), upd_ne nb]; exact e, [], upd_same, rfl, .nil⟩ (fun i Z _ pv => pv.1) (fun i v Z Z' hi pv hy => ?_) (fun Z pv => ?_)
    · obtain ⟨rfl, k, y, hk, rfl⟩ := hy
      obtain ⟨z1, z2, vs, z3, z4, z5⟩ := pv
      have hid : i < x.doors.length := by omega
      have hkey : k = .inr x.doors[i].name := by
        have e2 := congrArg (fun z => z[i]?) (doorsKv_keys h3)
        rw [List.getElem?_map, List.getElem?_map, List.getElem?_eq_getElem hid, hk] at e2
        exact Option.some.inj e2
      subst hkey
      have sqZ : ∀ a xs, SqT K H a xs → SqT K Z' a xs := fun a xs e => by
        rcases e with (e | ⟨u, e⟩) | e
        · exact .inl (.inl (z2 _ _ (fun z => by rw [z, h2] at e; cases e) e))
        · exact .inl (.inr ⟨u, z2 _ _ (fun z => by rw [z, h2] at e; cases e) e⟩)
        · exact .inr e
      obtain ⟨u, hu1, hu2⟩ := doorsKv_get (DqKv.moveT (N' := anyA) (fun _ _ => trivial) (fun a xs _ e => sqZ a xs e) _ _ h3) hid
      obtain ⟨t, tr, rvs, rfl, nt, ntr, et, er, eq⟩ := door_inv hu2
      have rhZ : Rd Z' h (.dK [(.inr "doors", .ref d), (.inr "stones", .ref st), (.inr "walkers", .ref wl), (.inr "rooms", .ref r)]) := by
        by_cases e : h = d
        · rw [e] at h1 ⊢
          rw [h2] at h1
          cases h1
          exact .inr ⟨od, z1⟩
        · exact .inl (z2 _ _ e h1)
      have hvv : valV dkv (.inr x.doors[i].name) = some (.ref t) := by
        refine valV_mem ?_ (List.mem_of_getElem? hu1)
        rw [doorsKv_keys h3]
        have := inr_nodup dnd
        rw [List.map_map] at this
        exact this
      refine ⟨rfl, yes_if ⟨.str x.doors[i].name, rfl, by show 1 ≤ sizeLine; decide, fun t1 nt1 => ?_⟩⟩
      have s1 := same_new nt1 (o := .tup [.str x.doors[i].name])
      have e1 : (upd Z' t1 (.tup [.str x.doors[i].name])) t1 = some (.tup [.str x.doors[i].name]) := upd_same
      have rh1 : Rd (upd Z' t1 (.tup [.str x.doors[i].name])) h (.dK [(.inr "doors", .ref d), (.inr "stones", .ref st), (.inr "walkers", .ref wl), (.inr "rooms", .ref r)]) := rhZ.elim (fun e => .inl (s1 _ _ e)) fun ⟨o, e⟩ => .inr ⟨o, s1 _ _ e⟩
      refine ⟨.ref h, rfl, h, .ref d, rfl, .inl ⟨_, .inr "doors", rh1, rfl, rfl⟩, .str x.doors[i].name, rfl, d, .ref t, rfl, .inl ⟨dkv, .inr x.doors[i].name, .inr ⟨od, s1 _ _ z1⟩, rfl, hvv.symm⟩, ?_⟩
      refine .inr ⟨t1, t, _, _, rfl, rfl, .inl (.inl e1), sqT_at (fun o => s1 _ o) et, by show 5 ≤ sizeLine; decide, fun z => by simp at z, fun _ z => by simp at z, fun _ _ t2 nt2 => ?_⟩
      have s2 := s1.trans (same_new nt2 (o := .tup ([.str x.doors[i].name] ++ [.str x.doors[i].one, .str x.doors[i].other, .str x.doors[i].way, .ref tr])))
      have e2 : (upd (upd Z' t1 (.tup [.str x.doors[i].name])) t2 (.tup ([.str x.doors[i].name] ++ [.str x.doors[i].one, .str x.doors[i].other, .str x.doors[i].way, .ref tr]))) t2 = some (.tup ([.str x.doors[i].name] ++ [.str x.doors[i].one, .str x.doors[i].other, .str x.doors[i].way, .ref tr])) := upd_same
      generalize upd (upd Z' t1 (.tup [.str x.doors[i].name])) t2 (.tup ([.str x.doors[i].name] ++ [.str x.doors[i].one, .str x.doors[i].other, .str x.doors[i].way, .ref tr])) = Z2 at s2 e2
      have z32 := s2 _ _ z3
      have mv : ∀ a xs, SqT K Z' a xs → SqT K (upd Z2 l (.lst (vs ++ [.ref t2]))) a xs := fun a xs e => sqT_lst z32 (sqT_at (fun o => s2 _ o) e)
      refine ⟨vs, z32, small1000000 (by omega), ?_, fun b u nb e => ?_, vs ++ [.ref t2], upd_same, ?_, ?_⟩
      · rw [upd_ne nd.symm]
        exact s2 _ _ z1
      · rw [upd_ne (fun z => by rw [z, nl0] at e; cases e)]
        exact s2 _ _ (z2 b u nb e)
      · rw [List.length_append, z4]; rfl
      · rw [take_snoc (List.getElem?_eq_getElem hid)]
        refine paired_snoc ?_ (paired_mono (fun _ _ q => q.move mv) z5)
        exact ⟨t2, tr, rvs, rfl, sqT_lst z32 (.inl (.inl e2)), mv _ _ er, DqAll.moveT (fun _ z => z) (fun a xs _ e => mv a xs e) _ _ (tOnly_map tOnly_row _) eq⟩
    · obtain ⟨z1, z2, vs, z3, z4, z5⟩ := pv
      rw [dl, List.take_length] at z5
      refine ⟨z1, ?_⟩
      have s0 : Same H (upd Z d (.dK dkv)) := fun b u e => by
        by_cases c : b = d
        · rw [c, upd_same, ← h2, ← c]
          exact e
        · rw [upd_ne c]
          exact z2 b u c e
      have p0 := paired_mono (fun _ _ q => q.move fun a xs e => sqT_frz (o := .dK dkv) z1 e) z5
      have l0 : (upd Z d (.dK dkv)) l = some (.lst vs) := by rw [upd_ne nd]; exact z3
      generalize upd Z d (.dK dkv) = G at s0 p0 l0
      clear rh
      -- what is handed to Hall
      refine ⟨.ref h, rfl, h, .ref r, rfl, DGet.k (k := .inr "rooms") (s0 _ _ h1), r, _, rfl, .inl (.inl (.inl (s0 _ _ h7))), fun lr nr => ?_⟩
      have s1 := same_new nr (o := .lst (x.rooms.map V.str))
      have e1 : (upd G lr (.lst (x.rooms.map V.str))) lr = some (.lst (x.rooms.map V.str)) := upd_same
      generalize upd G lr (.lst (x.rooms.map V.str)) = G1 at s1 e1
      have s01 := s0.trans s1
      refine ⟨.ref l, rfl, ?_⟩
      refine ⟨.ref h, rfl, h, .ref st, rfl, DGet.k (k := .inr "stones") (s01 _ _ h1), st, _, rfl, s01 _ _ h4, fun G2 ls ts s2 n2 nts n2t e2 pts => ?_⟩
      have s02 := s01.trans s2
      have sdq := stones_dq (K := K) (p := h) pts fun t ht z => by
        have := nts t ht
        rw [z, s01 _ _ h1] at this
        cases this
      refine ⟨.ref h, rfl, h, .ref wl, rfl, DGet.k (k := .inr "walkers") (s02 _ _ h1), wl, _, rfl, .inl (.inl (.inl (s02 _ _ h5))), fun lw nw => ?_⟩
      have s3 := same_new nw (o := .lst wvs)
      have e3 : (upd G2 lw (.lst wvs)) lw = some (.lst wvs) := upd_same
      generalize upd G2 lw (.lst wvs) = G3 at s3 e3
      have s03 := s02.trans s3
      intro m dx nm nd2 ne
      have f1 := same_new nd2 (o := .own m)
      have nm1 : (upd G3 dx (.own m)) m = none := by rw [upd_ne ne.symm]; exact nm
      have f2 := f1.trans (same_new nm1 (o := .ins C dx []))
      have s4 := s03.trans f2
      have sG := (s1.trans (Same.trans s2 s3)).trans f2
      refine ⟨NewT H, m, dx, lr, l, ls, lw, x, x.rooms, x.doors, vs, ts.map V.ref, wvs, x.stones, sr, sd, ss, sw, rfl, upd_same, ok, b1, b2, b3, b4, .inl (.inl (.inl (f2 _ _ (s3 _ _ (s2 _ _ e1))))), List.Perm.refl _, .inl (.inl (.inl (sG _ _ l0))), paired_mono (fun _ _ q => (q.move fun a xs e => sqT_at (fun o => sG _ o) e).doorV) p0, List.Perm.refl _,
        .inl (.inl (.inl (f2 _ _ (s3 _ _ e2)))), (sdq.mono (s3.trans f2)).any, List.Perm.refl _, .inl (.inl (.inl (f2 _ _ e3))), (h6.mono s4).any, fun b nb => newT_same s4 nb, .inl (s03.free nm), hT.ext s4, fun Z eZ tZ oZ => ?_⟩
      refine ⟨rfl, q m Z (s03.free nm) (fun b o e t => ?_) tZ oZ⟩
      exact eZ b o (fun z => by rw [z, s03.free nm] at e; cases e) (s4 _ _ e) t
end
end Wd

set_option Elab.async false
set_option linter.all false
set_option maxRecDepth 100000
set_option maxHeartbeats 4000000
namespace Wd
open PySem PySem.Spec PyProof.Rows L2
section
variable {P : Program} {w : World} {K : PySem.W.Frag} {mg : Str → Option Value} {base : Heap}
theorem Pen.wrD {H : Hp} {p d : Addr} {q : Addr × List Int} {n : Nat} {kvs : List (Key × V)} {o : HO} (hp : Pen K H p q n) (hd : H d = some (.dK kvs)) (ne : d ≠ p) : Pen K (upd H d o) p q n := by
  obtain ⟨t, r, h1, h2, h3⟩ := hp
  exact ⟨t, r, by rw [upd_ne ne.symm]; exact h1, sqL_dK hd h2, h3⟩
theorem Pen.wrF {H : Hp} {p d : Addr} {q : Addr × List Int} {n : Nat} {kvs : List (Key × V)} {u : _} {o : HO} (hp : Pen K H p q n) (hd : H d = some (.frz u (.dK kvs))) (ne : d ≠ p) : Pen K (upd H d o) p q n := by
  obtain ⟨t, r, h1, h2, h3⟩ := hp
  exact ⟨t, r, by rw [upd_ne ne.symm]; exact h1, sqL_frz hd h2, h3⟩
theorem walker_noRoom {x : HallH} (h : x.names.Nodup) {z : WalkH} (hz : z ∈ x.walkers) : z.name ∉ x.rooms := fun m => by
  unfold HallH.names at h
  exact (List.nodup_append.mp h).2.2 _ m _ (List.mem_append_left _ (List.mem_map.mpr ⟨z, hz, rfl⟩)) rfl
theorem nodup_inj {α β : Type} {f : α → β} : ∀ {xs : List α}, (xs.map f).Nodup → ∀ {a b : α}, a ∈ xs → b ∈ xs → f a = f b → a = b
  | x :: xs, n, a, b, ha, hb, e => by
    rw [List.map_cons] at n
    obtain ⟨n1, n2⟩ := List.nodup_cons.mp n
    rcases List.mem_cons.mp ha with q1 | q1
    · rcases List.mem_cons.mp hb with q2 | q2
      · rw [q1, q2]
      · exact absurd (by rw [← q1, e]; exact List.mem_map.mpr ⟨_, q2, rfl⟩) n1
    · rcases List.mem_cons.mp hb with q2 | q2
      · exact absurd (by rw [← q2, ← e]; exact List.mem_map.mpr ⟨_, q1, rfl⟩) n1
      · exact nodup_inj n2 q1 q2 e
theorem walker_inj {x : HallH} (h : x.names.Nodup) {a b : WalkH} (ha : a ∈ x.walkers) (hb : b ∈ x.walkers) (e : a.name = b.name) : a = b := by
  unfold HallH.names at h
  exact nodup_inj (List.nodup_append.mp (List.nodup_append.mp h).2.1).1 ha hb e
end
end Wd

set_option Elab.async false
set_option linter.all false
set_option maxRecDepth 100000
set_option maxHeartbeats 4000000
namespace Wd
open PySem PySem.Spec PyProof.Rows L2
theorem ne_sameL {K : PySem.W.Frag} {v : V} {H : Hp} {Q : VK} (q : Q (.bl false) H) (hs : scal v v = true := by rfl) : rNeX K v v H Q := .inl ⟨hs, by rw [decide_eq_true rfl]; exact q⟩
/-- what lives through a bout: the pen, the hall as data, the made hall -/
structure LSt (K : PySem.W.Frag) (C p h m : Addr) (qc : Addr × List Int) (n : Nat) (TT : List (Addr × Str)) (x : HallH) (G : Hp) : Prop where
  pen : Pen K G p qc n
  tab : LamX.Tabs TT G
  hall : HallAt (· ≠ p) K G h x
  obj : HObj (· ≠ p) K C G m x
theorem LSt.same {K : PySem.W.Frag} {C p h m : Addr} {qc : Addr × List Int} {n : Nat} {TT : List (Addr × Str)} {x : HallH} {G G' : Hp} (a : LSt K C p h m qc n TT x G) (s : Same G G') : LSt K C p h m qc n TT x G' :=
  ⟨a.pen.same s, a.tab.ext s, HallAt.move (fun _ z => z) (fun b o _ e => s b o e) a.hall, a.obj.same s⟩
theorem LSt.kp {K : PySem.W.Frag} {C p h m : Addr} {qc : Addr × List Int} {n n' : Nat} {TT : List (Addr × Str)} {x : HallH} {G G' : Hp} (a : LSt K C p h m qc n TT x G) (k : Kp p G G') (pen : Pen K G' p qc n') : LSt K C p h m qc n' TT x G' := by
  obtain ⟨t, r, e, _⟩ := id a.pen
  exact ⟨pen, tabs_kp a.tab e k, HallAt.extM e (ExtM.kp k) a.hall, a.obj.move (fun _ z => z) (fun b o nb _ h => k b o nb h) fun b xs h => ExtM.sqT2 e (ExtM.kp k) b xs h⟩
theorem LSt.made {K : PySem.W.Frag} {C p h m : Addr} {qc : Addr × List Int} {n : Nat} {TT : List (Addr × Str)} {x : HallH} {G Z : Hp} (pen : Pen K G p qc n) (hall : HallAt (· ≠ p) K G h x) (e : LamX.ExtN G Z) (t : LamX.Tabs TT Z) (o : HObj (NewT G) K C Z m x) : LSt K C p h m qc n TT x Z := by
  obtain ⟨t', r', g1, g2, g3⟩ := pen
  refine ⟨⟨t', r', e _ _ g1 (fun _ z => by cases z), ext_sqL e g2, g3⟩, t, HallAt.extM g1 (ExtM.extN e) hall, o.move (fun a ha z => ?_) (fun _ _ _ _ h => h) fun _ _ h => h⟩
  subst z
  rcases ha with ha | ⟨ps, ha⟩
  · rw [g1] at ha; cases ha
  · rw [g1] at ha; cases ha
def spLaw (K : PySem.W.Frag) (TT : List (Addr × Str)) : Sp := fun vs H Q _ => ∃ (a : Addr) (L : List Int), vs = [.ref a] ∧ SqL K H a (L.map V.int) ∧ L.length ≤ 63 ∧ LamX.Tabs TT H ∧ ∀ H', Q (.bl true) H'
end Wd

set_option Elab.async false
set_option linter.all false
set_option maxRecDepth 100000
set_option maxHeartbeats 4000000
/-! try: .. except X as n: a suite that raises (from None). -/
namespace Wd
open PySem PySem.Spec PyProof.Rows L2 HotX L2H
/-- the context of such a suite: xe is what becomes of what it raises -/
abbrev suiteE (X : Cx) (a : Addr) (pn : List (Addr × Obj)) (xe : Value → Shared → Prop) : Cx := { X with A := X.A.mark (some (.ref a)), calm := false, pn := pn, xe := xe }
/-- slot i is forgotten -/
def wUn (i : Nat) (W : WX) : WX := fun cls d σ H => W cls d (σ.set i none) H
section
variable {X : Cx} {pins : List (Addr × Obj)} {σ : L2.St} {H : Hp} {s : Shared} {i : Nat} {n : Str}
theorem suiteE_of {a : Addr} {pn pn' : List (Addr × Obj)} {xe : Value → Shared → Prop} (I : Inv (X.suite a pn) pn' σ H s) : Inv (suiteE X a pn xe) pn' σ H s := Inv.unwish (X := suiteE X a pn xe) (E := fun _ _ => False) I
theorem unsuiteE {a : Addr} {z : Addr × Obj} {pn' : List (Addr × Obj)} {xe : Value → Shared → Prop} (I : Inv (suiteE X a (z :: (X.pn ++ pins)) xe) pn' σ H s) (okX : X.Ok) : Inv X pins σ H s :=
  Inv.unsuite (X := X) (a := a) (q := z) (pn' := pn') (show Inv (X.suite a (z :: (X.pn ++ pins))) pn' σ H s from I.wish fun _ _ => False) okX
/-- the name goes: what is known but of it stays -/
theorem inv_gone (I : Inv X pins σ H s) (hNd : X.N.Nodup) (hin : X.N[i]? = some n) : ∃ m, s.heap.Ns X.env.locals m ∧ ∀ (g : Heap) (v : Option Value) (t' : Nat), g.Ns X.env.locals (fun x => if x = n then v else m x) → Heap.SameBut X.env.locals s.heap g → Inv X pins (σ.set i none) H { s with heap := g, toks := t' } := by
  obtain ⟨m, hm, look⟩ := id I.loc
  refine ⟨m, hm, fun g v t' hg same => ?_⟩
  have off : ∀ b o, X.s_0.heap.get? b = some o → b ≠ X.env.locals := fun b o z => Nat.ne_of_lt (Nat.lt_of_lt_of_le (Heap.lt_size z) I.ok.above)
  have un : Un X.fs X.ex X.H_0 H X.s_0.heap g := by
    refine ⟨fun b o e z hb hx => ?_, fun b o e z hb hx => ?_, I.base.free, fun b o e hx => ?_, I.base.tups, I.base.frzs, I.base.tbls⟩
    · exact (same.2 b (off b o e)).trans (I.base.keep b o e z hb hx)
    · obtain ⟨sl, w⟩ := I.base.slot b o e z hb hx
      exact ⟨sl, (same.2 b (off b o e)).trans w⟩
    · obtain ⟨w, y⟩ := I.base.there b o e hx
      exact ⟨w, (same.2 b (off b o e)).trans y⟩
  refine ⟨I.ok, I.os, I.bare, un, ⟨_, hg, fun j y v' n1 n2 n3 => ?_⟩, fun y c w => ?_, I.free, I.freeC, fun z hz => ?_, fun b ob e => ?_, by simpa using I.len⟩
  · by_cases ji : j = i
    · subst ji
      by_cases jl : j < σ.length
      · rw [List.getElem?_set_self jl] at n2; cases n2
      · rw [List.getElem?_eq_none (by simpa using jl)] at n2; cases n2
    · rw [List.getElem?_set_ne (Ne.symm ji)] at n2
      obtain ⟨u, ru, lo⟩ := look j y v' n1 n2 n3
      refine ⟨u, ru, ?_⟩
      rcases lo with ⟨k, w⟩ | ⟨k, c, w, z⟩
      · have yn : y ≠ n := fun w2 => ji (nodup_ix hNd n1 (w2 ▸ hin))
        exact .inl ⟨k, (if_neg yn).trans w⟩
      · exact .inr ⟨k, c, w, z.sameBut same (I.cne y c w)⟩
  · obtain ⟨v1, z⟩ := I.cell y c w
    exact ⟨v1, z.sameBut same (I.cne y c w)⟩
  · obtain ⟨e1, e2, e3, e4, e5⟩ := I.pin z hz
    exact ⟨(same.2 z.1 e3).trans e1, e2, e3, e4, e5⟩
  · refine ObjOk.stay (I.hok b ob e) (fun c w hc y => (same.2 c (fun z => ?_)).trans y) (fun _ y => y) fun _ _ y => y
    have hf := I.free
    rcases hc with hc | hc
    · rw [← z, hc, e] at hf
      cases hf
    · rw [z, hf] at hc
      cases hc
/-- what an exception that a suite raises finds behind it: the name goes, it is passed on -/
theorem passed_on {Wout : WX} {pos' : Pos} {a : Addr} {oz : Obj} {xe : Value → Shared → Prop} {hd : Option Value} (hst : X.stack = X.env :: X.outer) (hfr0 : X.env.frame = some X.env.locals) (hNd : X.N.Nodup) (hin : X.N[i]? = some n) (hloc : X.env.kindOf n = some .local)
    (okX : X.Ok) (frm : (X.A.mark hd).frames = some (X.env :: X.outer)) (hpa : PassesOwnAt (model X.prog X.w) (X.A.mark hd) X.A X.env X.xe) (tko : L2.Takes X Wout) {E2 E3 : Value → Shared → Prop} {u : Value} {sx : Shared}
    (xx : XE (suiteE X a ((a, oz) :: (X.pn ++ pins)) xe) (wUn i Wout) u sx) :
    wpAny (model X.prog X.w) (X.A.mark hd) (noteFrame u X.env) (fun _ s3 => wpAny (model X.prog X.w) (X.A.mark hd) (do bindName X.env n .none; unbindBehindTheSuite X.env n pos')
      (fun _ s4 => wpAny (model X.prog X.w) (X.A.mark hd) (PySem.passOn "try.except-as" u X.env : Sem Flow) (fun _ _ => False) (notedBy (model X.prog X.w) (X.A.mark hd) X.env (cameBackBy (model X.prog X.w) X.A X.env X.xe)) s4) E2 s3) E3 sx := by
  obtain ⟨b, B, sJ, pn2, σ', H', cls, d, rfl, I2, kept, up, sky, nb, os, ag, w⟩ := xx
  have J : Inv X pins σ' H' sJ := unsuiteE I2 okX
  have kept : ∀ c o, sJ.heap.get? c = some o → c ∉ frs X.stack → B.get? c = some o := kept
  have sky2 : Sky B (X.env :: X.outer) b (Zc cls d) X.env.locals sx.heap := by rw [← hst]; exact sky
  have fin : ∀ g1, HandSPX.HeldZ B (X.env :: X.outer) b (Zc cls d) X.env.locals g1 → sx.heap.UpToSlots g1 → wpAny (model X.prog X.w) (X.A.mark hd) (do bindName X.env n .none; unbindBehindTheSuite X.env n pos')
      (fun _ s4 => wpAny (model X.prog X.w) (X.A.mark hd) (PySem.passOn "try.except-as" (.ref b) X.env : Sem Flow) (fun _ _ => False) (notedBy (model X.prog X.w) (X.A.mark hd) X.env (cameBackBy (model X.prog X.w) X.A X.env X.xe)) s4) E2 { sx with heap := g1 } := fun g1 held u1 => by
    obtain ⟨m, hm, gone⟩ := inv_gone J hNd hin
    have kcl : (X.env.scope.kind == .class || (X.env.scope.kind == .module && X.env.locals != X.env.globals)) = false := by rw [okX.kind]; rfl
    refine wpAny_nameGoes_keeps hloc ((up.trans u1).ns hm) kcl fun g2 v hg2 same => ?_
    obtain ⟨f1, f2, f3, f4⟩ := held
    have LB : B.get? X.env.locals = none := by
      obtain ⟨_, ⟨L', _, e1, e2, _⟩, _⟩ := f3
      rw [hfr0] at e1
      rw [Option.some.inj e1]
      exact e2
    obtain ⟨oL, es, ep, hoL, hdL, skL, mapL⟩ := id hg2
    obtain ⟨oI, _, _, hoI, _⟩ := id hm
    have gI : (sJ.heap.update X.env.locals (fun _ => oL)).get? X.env.locals = some oL := Heap.get?_update_self (fun _ => oL) hoI (Heap.get?_some_iff.mp hoL).2
    have sameI := Heap.SameBut.update sJ.heap X.env.locals (fun _ => oL)
    have J2 := gone _ v sJ.toks ⟨oL, es, ep, gI, hdL, skL, mapL⟩ sameI
    have st2 : B.StaysIn g2 := fun c o z => (same.2 c (fun y => by rw [y, LB] at z; cases z)).trans (f1 c o z)
    have fr2 : g2.FunFrames B (X.env :: X.outer) := Heap.FunFrames.sameBut same hg2 f3
    obtain ⟨oe, vs, T, oT, ts, t1, t2, t3, t4, t5, t6, t7, t8, t9⟩ := f4
    have hmx := (up.trans u1).ns hm
    obtain ⟨oX, ex, px, hoX, hdX, _⟩ := hmx
    have hoX : g1.get? X.env.locals = some oX := hoX
    have nbL : b ≠ X.env.locals := fun z => by
      rw [z, hoX] at t1
      cases t1
      rw [hdX] at t3
      cases t3
    have nTL : T ≠ X.env.locals := fun z => by
      rw [z, hoX] at t7
      cases t7
      rw [hdX] at t8
      cases t8
    have tr2 : HandSPX.TracedZ g2 B b (Zc cls d) (rawInt X.env.locals) := ⟨oe, vs, T, oT, ts, (same.2 b nbL).trans t1, t2, t3, t4, t5, t6, (same.2 T nTL).trans t7, t8, t9⟩
    unfold PySem.passOn
    refine wpAny_bind (wpAny_field ((same.2 b nbL).trans t1) t3 t4 ?_)
    rw [if_neg (show ¬ ((Value.ref T == Value.none) = true) from by simp)]
    have last : wpAny (model X.prog X.w) (X.A.mark hd) (setFlight (.ref b) X.env.frame) (fun _ s5 => wpAny (model X.prog X.w) (X.A.mark hd) (throw (.ref b) : Sem Flow) (fun _ _ => False) (notedBy (model X.prog X.w) (X.A.mark hd) X.env (cameBackBy (model X.prog X.w) X.A X.env X.xe)) s5)
        (notedBy (model X.prog X.w) (X.A.mark hd) X.env (cameBackBy (model X.prog X.w) X.A X.env X.xe)) { sx with heap := g2, toks := sx.toks + 1 } := by
      rw [hfr0]
      refine HandSPX.setFlight_anyZ (fr := some X.env.locals) st2 fr2 tr2 fun g3 st3 fr3 tr3 up3 => wpAny_throw (hpa _ _ (tko _ _ ?_))
      refine ⟨b, B, _, pins, σ'.set i none, H', cls, d, rfl, J2, fun c o z nc => ?_, fun c o z nf => ?_, .inr (.inr ?_), nb, os, ag, w⟩
      · have cL : c ≠ X.env.locals := fun y => nc (List.mem_filterMap.mpr ⟨X.env, by rw [hst]; exact List.mem_cons_self, by rw [hfr0, y]⟩)
        have z2 : (sJ.heap.update X.env.locals (fun _ => oL)).get? c = some o := z
        rw [sameI.2 c cL] at z2
        exact kept c o z2 nc
      · have z2 : (sJ.heap.update X.env.locals (fun _ => oL)).get? c = some o := z
        by_cases cL : c = X.env.locals
        · subst cL
          rw [gI] at z2
          cases z2
          exact up3 _ _ hoL nf
        · rw [sameI.2 c cL] at z2
          obtain ⟨sl, y⟩ := (up.trans u1) c o z2 nf
          exact up3 c { o with slots := sl } ((same.2 c cL).trans y) nf |>.elim fun sl2 y2 => ⟨sl2, y2⟩
      · rw [hst]
        exact ⟨st3, f2, fr3, tr3⟩
    first
      | exact wpAny_bind (wpAny_pure (wpAny_bind last))
      | exact wpAny_bind last
  rcases sky2 with ⟨h1, h2, h3, oe, vs, h4, h5, h6, h7⟩ | fl | held
  · exact HandSPX.look_newZ Zc.steady frm h3 hfr0 h4 h1 h2 h6 h7 h5 fin
  · exact HandSPX.looks_onZ Zc.steady frm hfr0 fl fin
  · exact HandSPX.againZ hfr0 held.2.2.2 (fin sx.heap held (Heap.UpToSlots.refl _))
end
section
variable {X : Cx} {x n : Str} {c : Value} {i : Nat} {body suite : List Stmt} {b₁ : Stmt} {np pos pos' : Pos} {tb : WX → TS} {ts : Addr → Value → Option Addr → TS} {Wout : WX}
def tTryX (K : PySem.W.Frag) (c : Value) (i : Nat) (tb : WX → TS) (ts : Addr → Value → Option Addr → TS) (Wout : WX) : TS := fun D σ H => tb (wAs K c i ts Wout D) D σ H
/-- a suite under a name, that may raise -/
theorem ps_try_asX {K : PySem.W.Frag} (hst : X.stack = X.env :: X.outer) (hfr0 : X.env.frame = some X.env.locals) (hNd : X.N.Nodup) (hin : X.N[i]? = some n) (hloc : X.env.kindOf n = some .local) (hcl : Names X x c)
    (hpa : ∀ hd : Option Value, PassesOwnAt (model X.prog X.w) (X.A.mark hd) X.A X.env X.xe) (tko : L2.Takes X Wout)
    (hbd : ∀ (W : WX) (pn : List (Addr × Obj)) (xe : Value → Shared → Prop), L2N.Takes (X.tr pn xe) W → PassesOwn (model X.prog X.w) X.A X.env xe → PSs (X.tr pn xe) body (tb W))
    (hst2 : ∀ (a : Addr) (oz : Obj) (cls : Value) (d : Option Addr) (pn : List (Addr × Obj)) (xe : Value → Shared → Prop), Zc cls d oz → (∃ vs, oz.data = .fields vs) → L2.Takes (suiteE X a ((a, oz) :: pn) xe) (wUn i Wout) → HotC (suiteE X a ((a, oz) :: pn) xe) →
      PSs (suiteE X a ((a, oz) :: pn) xe) (b₁ :: suite) (ts a cls d)) (hK : X.K = K := by rfl) :
    PS X (.Try body [.ExceptHandler (some (.Name x np)) (some n) (b₁ :: suite) pos'] [] [] pos) (tTryX K c i tb ts Wout) := by
  subst hK
  refine ⟨fun pins s σ H D I h => ?_⟩
  have okX := I.ok
  have frm : X.A.frames = some (X.env :: X.outer) := by rw [okX.frames, hst]
  have lc : Loc X.env.scope n := .inl hloc
  refine wpAny_Try_except ?_
  refine wpAny_mono ((hbd (wAs X.K c i ts Wout D) (X.pn ++ pins) (fun z z1 => wpAny (model X.prog X.w) X.A (noteFrame z X.env) (fun _ z2 => wpAny (model X.prog X.w) X.A (setFlight z none) (fun _ z3 =>
    wpAny (model X.prog X.w) X.A (handleBy z X.env [.ExceptHandler (some (.Name x np)) (some n) (b₁ :: suite) pos']) (SP X pins D) X.xe z3) X.xe z2) X.xe z1) (fun u su xx => ?_) PassesOwn.looking).run [] s σ H D (I.toTry _) h) (fun fl s1 hsp => ?_) (fun z s1 hz => hz)
  · -- caught
    obtain ⟨a, G, sJ, pinz, σ', H', cls, d, rfl, Jt, kept, up, sky, na, os, ag, b, hb1, hyes, hno⟩ := xx
    have Jo : Inv X pins σ' H' sJ := Jt.ofTry okX
    have sky2 : Sky G (X.env :: X.outer) a (L2N.Zn cls d) X.env.locals su.heap := by rw [← hst]; exact sky
    show wpAny (model X.prog X.w) X.A (noteFrame (.ref a) X.env) _ _ _
    refine L2N.Sky.land L2N.Zn.steady frm hfr0 sky2 fun g3 fl3 up3 => ?_
    have J3 : Inv X pins σ' H' { su with heap := g3 } := Jo.landed kept fl3.1 (up.trans up3) os ag
    obtain ⟨o3, v3, e3, z3, d3⟩ := fl3.there
    have offFr : ∀ {g : Heap} {o : Obj} {vs : Array Value}, g.FunFrames G (X.env :: X.outer) → g.get? a = some o → o.data = .fields vs → a ∉ frs (X.env :: X.outer) := fun {g o vs} ff e dd hm => by
      obtain ⟨_, o', e', hnf⟩ := ff.mem hm
      rw [e] at e'; cases e'
      exact hnf _ dd
    have nfr := offFr fl3.2.2.1 e3 d3
    have nL : a ≠ X.env.locals := fun z => nfr (List.mem_filterMap.mpr ⟨X.env, List.mem_cons_self, by rw [hfr0, z]⟩)
    have nF : a ∉ X.fs := fun hm => by
      obtain ⟨y, hy, q⟩ := List.mem_filterMap.mp hm
      exact nfr (List.mem_filterMap.mpr ⟨y, List.mem_cons_of_mem _ hy, q⟩)
    have S3 := J3.suite e3 d3 na nL nF
    refine wpAny_handleBy_cons (codeAny_handlers_test ?_) (by intro q; cases q)
    have typA : PySem.W.Looks (model X.prog X.w) g3 (typeOf (.ref a)) cls := fun A' Q' E' s' kq q => wpAny_typeOf_ref (kq _ _ e3) (by rw [z3.1]; exact q)
    have isA := PySem.W.exm_one (M := model X.prog X.w) (J3.kIn) typA hb1
    have nameA : ∀ {Q : Value → Shared → Prop} {E : Value → Shared → Prop}, Q c { su with heap := g3 } → wpAny (model X.prog X.w) (X.A.mark (some (.ref a))) (eval (.Name x np) X.env) Q E { su with heap := g3 } := fun {Q E} q => by
      obtain ⟨hg, hdbg, hm | ⟨hm, hv, hnn⟩⟩ := hcl
      · exact ld_glob (X := X.suite a ((a, o3) :: (X.pn ++ pins))) S3 hg hm q hdbg
      · exact ld_blt (X := X.suite a ((a, o3) :: (X.pn ++ pins))) S3 hg hm hv q hnn hdbg
    refine nameA (isA.here ?_)
    cases b with
    | true =>
      refine codeAny_handlers_suite_as ?_
      refine HandSPX.lands_againZ fl3 fun g4 fl4 up4 => ?_
      have J4 : Inv X pins σ' H' { su with heap := g4 } := Jo.landed kept fl4.1 ((up.trans up3).trans up4) os ag
      obtain ⟨o4, v4, e4, z4, d4⟩ := fl4.there
      have S4 := J4.suite e4 d4 na nL nF
      refine store_ok (X := X.suite a ((a, o4) :: (X.pn ++ pins))) (v := .ref a) S4 hNd hin lc rfl (fun s5 S5 => ?_) (.inr hloc)
      have run := (hst2 a o4 cls d (X.pn ++ pins) (fun u s6 => wpAny (model X.prog X.w) (X.A.mark (some (.ref a))) (noteFrame u X.env) (fun _ s7 => wpAny (model X.prog X.w) (X.A.mark (some (.ref a))) (do bindName X.env n .none; unbindBehindTheSuite X.env n pos')
          (fun _ s8 => wpAny (model X.prog X.w) (X.A.mark (some (.ref a))) (PySem.passOn "try.except-as" u X.env : Sem Flow) (fun _ _ => False) (notedBy (model X.prog X.w) (X.A.mark (some (.ref a))) X.env (cameBackBy (model X.prog X.w) X.A X.env X.xe)) s8)
          (fun y s8 => wpAny (model X.prog X.w) (X.A.mark (some (.ref a))) (setFlight u none) (fun _ s9 => (notedBy (model X.prog X.w) (X.A.mark (some (.ref a))) X.env (cameBackBy (model X.prog X.w) X.A X.env X.xe)) y s9) (notedBy (model X.prog X.w) (X.A.mark (some (.ref a))) X.env (cameBackBy (model X.prog X.w) X.A X.env X.xe)) s8) s7)
          (notedBy (model X.prog X.w) (X.A.mark (some (.ref a))) X.env (cameBackBy (model X.prog X.w) X.A X.env X.xe)) s6)
        z4.zc ⟨_, d4⟩ (fun u s6 xx6 => ?_) ⟨(a, o4), ⟨rfl, v4, d4, z4.2.2 v4 d4⟩, List.mem_cons_self⟩).run [] s5 _ H' _ (suiteE_of S5) (hyes rfl a na)
      · refine wpAny_mono run (fun fl s6 hsp => ?_) (fun u s6 z => z)
        have fin6 : ∀ {σ6 : L2.St} {H6 : Hp} {xe : Value → Shared → Prop} {Q : Shared → Prop}, Inv (suiteE X a ((a, o4) :: (X.pn ++ pins)) xe) [] σ6 H6 s6 → (∀ s7, Inv X pins (σ6.set i none) H6 s7 → Q s7) →
            wpAny (model X.prog X.w) X.A (do bindName X.env n .none; unbindBehindTheSuite X.env n pos') (fun _ s7 => Q s7) X.xe s6 := fun {σ6 H6 xe Q} S6 hq => gone_ok (unsuiteE S6 okX) hNd hin hloc hq
        cases fl with
        | next =>
          obtain ⟨σ6, H6, S6, q6⟩ := hsp
          exact fin6 S6 fun s7 J7 => ⟨_, _, J7, q6⟩
        | brk =>
          obtain ⟨σ6, H6, S6, q6⟩ := hsp
          exact fin6 S6 fun s7 J7 => ⟨_, _, J7, q6⟩
        | cont =>
          obtain ⟨σ6, H6, S6, q6⟩ := hsp
          exact fin6 S6 fun s7 J7 => ⟨_, _, J7, q6⟩
        | ret u =>
          obtain ⟨v6, σ6, H6, S6, r6, q6⟩ := hsp
          exact fin6 S6 fun s7 J7 => ⟨_, _, _, J7, r6, q6⟩
      · exact passed_on hst hfr0 hNd hin hloc okX frm (hpa _) tko xx6
    | false =>
      show wpAny _ X.A (handleBy (.ref a) X.env []) _ _ _
      refine wpAny_handleBy_nil ?_
      obtain ⟨k1, k2, k3, oq, vq, T, oT, tq, he, hz, hd, h1, hr⟩ := id fl3
      unfold PySem.passOn
      refine wpAny_bind (wpAny_field he hd h1 ?_)
      rw [if_neg (show ¬ ((Value.ref T == Value.none) = true) from by simp)]
      have flz : HandSPX.FlyingZ G (X.env :: X.outer) a (Zc cls d) g3 := ⟨k1, k2, k3, oq, vq, T, oT, tq, he, hz.zc, hd, h1, hr⟩
      have on : wpAny (model X.prog X.w) X.A (setFlight (.ref a) X.env.frame) (fun _ z4 => wpAny (model X.prog X.w) X.A (throw (.ref a) : Sem Flow) (SP X pins D) X.xe z4) X.xe { su with heap := g3 } := by
        rw [hfr0]
        refine HandSPX.setFlight_upZ flz fun g4 held up4 => wpAny_throw (tko _ _ ?_)
        exact ⟨a, G, sJ, pins, σ', H', cls, d, rfl, Jo, kept, (up.trans up3).trans up4, .inr (.inr (by rw [hst]; exact held)), na, os, ag, hno rfl⟩
      first
        | exact wpAny_bind (wpAny_pure (wpAny_bind on))
        | exact wpAny_bind on
  · cases fl with
    | next =>
      obtain ⟨σ', H', Jz, q⟩ := hsp
      exact wpAny_execs_nil ⟨σ', H', Jz.ofTry okX, q⟩
    | brk =>
      obtain ⟨σ', H', Jz, q⟩ := hsp
      exact ⟨σ', H', Jz.ofTry okX, q⟩
    | cont =>
      obtain ⟨σ', H', Jz, q⟩ := hsp
      exact ⟨σ', H', Jz.ofTry okX, q⟩
    | ret u =>
      obtain ⟨v, σ', H', Jz, r, q⟩ := hsp
      exact ⟨v, σ', H', Jz.ofTry okX, r, q⟩
end
end Wd

set_option Elab.async false
set_option linter.all false
set_option maxRecDepth 100000
set_option maxHeartbeats 4000000
/-! A def that may raise, called with keywords or without its keyword-only ones. -/
namespace Wd
open PySem PySem.Spec PyProof.Rows L2
structure CalK (P : Program) (w : World) (K : PySem.W.Frag) (mg : Str → Option Value) (base : Heap) (k : Nat) (x : Str) (n : Nat) (ks : List Str) (gV : List V → List V → List V) (sp : Sp) : Prop where
  ex : ∃ (f : Addr) (fd : FuncData) (ps : List Str) (g : List Value → List Value → List Value), FnOk P w K mg base (L2.CX P w) k f fd ps sp ∧ mg x = some (.ref f) ∧ PySem.W.keepIn K (.ref f) = true ∧ KBn K fd ps n ks g gV
def tCallKS (n m : Nat) (sp : Sp) (gV : List V → List V → List V) (W : WX) (t tk : TA) : TE := fun σ H Q => t σ H fun vs H1 => tk σ H1 fun zs H2 => vs.length = n ∧ zs.length = m ∧ sp (gV vs zs) H2 Q (WE W σ)
section
variable {X : Cx} {CX : CXT} {k j n : Nat} {f : Addr} {fd : FuncData} {ps ks : List Str} {sp : Sp} {E : L2.St → XK} {x : Str} {p pos : Pos} {e : Expr} {es : List Expr} {kws : List Keyword} {t tk : TA} {g : List Value → List Value → List Value} {gV : List V → List V → List V} {W : WX}
theorem run_fnKS {pins : List (Addr × Obj)} {σ : L2.St} {H : Hp} {s : Shared} {Q : VK} {us ws : List Value} {vs zs : List V} (F : FnOk X.prog X.w X.K X.mg X.base CX k f fd ps sp) (hr : Room k X.A) (hb : KBn X.K fd ps n ks g gV) (hx : PassesAt CX X σ (E σ))
    (I : Inv X pins σ H s) (r : Vals vs us) (rz : Vals zs ws) (l1 : vs.length = n) (l2 : zs.length = ks.length) (h : sp (gV vs zs) H Q (E σ)) : wpAny (model X.prog X.w) X.A (call (.ref f) us (ks.zip ws)) (EP X pins σ Q) X.xe s := by
  have r2 := hb.rel r rz
  refine wpAny_call (codeAny_mono (F.run X.A X.stack s H ⟨us, ks.zip ws⟩ (g us ws) (gV vs zs) Q (E σ) hr I.env0 (hb.to s us ws I.kIn (r.length.symm.trans l1) (rz.length.symm.trans l2)) r2 h) fun r s' hq => ?_)
  cases r with
  | error e => exact hx pins H s e s' I hq
  | ok fl =>
    cases fl with
    | ret u => exact I.after hq
    | next => exact False.elim hq
    | brk => exact False.elim hq
    | cont => exact False.elim hq
/-- f(e, .., k = v, ..), where W takes what it raises -/
theorem pe_cK (tkx : Takes X W) (c : CalK X.prog X.w X.K X.mg X.base k x n ks gV sp) (hr : Room j X.A) (hk : k ≤ j) (hg : Gl X x) (ha : PA X (e :: es) t) (hkw : PK X kws tk)
    (hall : (backToKw pos (keywordEach kws X.env)).all (·.1.isSome) = true := by rfl) (hks : (backToKw pos (keywordEach kws X.env)).filterMap (·.1) = ks := by rfl)
    (hdb : (x == ("__debug__" : Str)) = false := by decide) (he : starEach (e :: es) X.env = (false, eval e X.env) :: starEach es X.env := by rfl)
    (hpl : ((backTo pos (starEach (e :: es) X.env)).any (·.1) || (backToKw pos (keywordEach kws X.env)).any (·.1.isNone)) = false := by rfl) :
    PE X (.Call (.Name x p) (e :: es) kws pos) (tCallKS n ks.length sp gV W t tk) := by
  obtain ⟨f, fd, ps, g, F, hm, kp, hb⟩ := c.ex
  refine ⟨fun pins s σ H Q I h => ?_⟩
  refine wpAny_Call_Name_kw (ld_glob I hg hm ?_ hdb)
  refine PySem.W.callWith_KW (h₀ := X.base) I.ok.mod.kin kp hall (thn (ha.run pos pins s σ H _ I h) fun us s1 ⟨vs, H1, I1, r, q⟩ => ?_) hpl he
  refine thn (hkw.run pos pins s1 σ H1 _ I1 q) fun ws s2 ⟨zs, H2, I2, rz, l1, l2, q2⟩ => ⟨I2.kIn, ?_⟩
  rw [hks]
  exact run_fnKS F (hr.mono hk) hb (passAt tkx σ) I2 r rz l1 l2 q2
/-- f(e, ..): the keyword-only ones by default -/
theorem pe_cK0 (tkx : Takes X W) (c : CalK X.prog X.w X.K X.mg X.base k x n [] gV sp) (hr : Room j X.A) (hk : k ≤ j) (hg : Gl X x) (ha : PA X (e :: es) t)
    (hdb : (x == ("__debug__" : Str)) = false := by decide) (he : starEach (e :: es) X.env = (false, eval e X.env) :: starEach es X.env := by rfl) (hpl : (backTo pos (starEach es X.env)).any (·.1) = false := by rfl) :
    PE X (.Call (.Name x p) (e :: es) [] pos) (tCallKS n 0 sp gV W t tNil) := by
  obtain ⟨f, fd, ps, g, F, hm, kp, hb⟩ := c.ex
  refine ⟨fun pins s σ H Q I h => ?_⟩
  refine wpAny_Call_Name_kw (ld_glob I hg hm ?_ hdb)
  refine PySem.W.callWith_K (h₀ := X.base) I.ok.mod.kin kp (thn (ha.run pos pins s σ H _ I h) fun us s1 ⟨vs, H1, I1, r, q⟩ => ⟨I1.kIn, ?_⟩) he hpl
  obtain ⟨l1, l2, q2⟩ := q
  exact run_fnKS (ks := []) (ws := []) (zs := []) F (hr.mono hk) hb (passAt tkx σ) I1 r .nil l1 rfl q2
end
theorem call_reprK {X : Cx} {K : PySem.W.Frag} (hgd : X.A.guards = some []) (hu : X.A.units + 64 < cLine) (hK : X.K = K := by rfl) : CallR X (.builtin "repr") (rRepr K) := by
  subst hK
  exact call_reprG hgd hu
/-- try/except as a statement of its own name: within a loop's body a bare function of the ends can't be found by unification -/
def tTryK (K : PySem.W.Frag) (c : Value) (i : Nat) (tb : WX → TS) (ts : Addr → Value → Option Addr → TS) (Wout : WX) : TS := fun D σ H => tb (wKeep K c i ts Wout D) D σ H
theorem ps_try_keepT {X : Cx} {K : PySem.W.Frag} {x n : Str} {c : Value} {i : Nat} {body suite : List Stmt} {b₁ : Stmt} {np pos pos' : Pos} {tb : WX → TS} {ts : Addr → Value → Option Addr → TS} {Wout : WX}
    (hst : X.stack = X.env :: X.outer) (hfr0 : X.env.frame = some X.env.locals) (hNd : X.N.Nodup) (hin : X.N[i]? = some n) (hloc : X.env.kindOf n = some .local) (hcl : Names X x c) (tko : Takes X Wout) (hex : X.ex = [])
    (hbd : ∀ (W : WX) (pn : List (Addr × Obj)) (xe : Value → Shared → Prop), Takes (X.tr pn xe) W → PassesOwn (model X.prog X.w) X.A X.env xe → PSs (X.tr pn xe) body (tb W))
    (hst2 : ∀ (a : Addr) (oz : Obj) (cls : Value) (d : Option Addr) (pn : List (Addr × Obj)), Zc cls d oz → (∃ vs, oz.data = .fields vs) → PSs (X.suite a ((a, oz) :: pn)) (b₁ :: suite) (ts a cls d)) (hK : X.K = K := by rfl) :
    PS X (.Try body [.ExceptHandler (some (.Name x np)) (some n) (b₁ :: suite) pos'] [] [] pos) (tTryK K c i tb ts Wout) := by
  subst hK
  exact ps_try_keep hst hfr0 hNd hin hloc hcl tko hex hbd hst2
end Wd

set_option Elab.async false
set_option linter.all false
set_option maxRecDepth 100000
set_option maxHeartbeats 4000000
namespace Wd
open PySem PySem.Spec PyProof.Rows L2
abbrev s_law : Stmt := topS 36
theorem sc_law : FnScope ["script", "pen", "bout", "hall", "made", "goal", "thing", "kept", "caught", "found", "e", "due", "k"] ["script"] (C8.fnScope s_law) := ⟨rfl, rfl, rfl, by decide +kernel, rfl, by decide +kernel, by decide +kernel⟩
section
variable {P : Program} {w : World} {K : PySem.W.Frag} {mg : Str → Option Value} {base : Heap}
theorem wi_nt5 {d : PyData} (h : Wi [9, 5, 1] d) : Nt 6399 4 d :=
  (wi_nt (w := 710) (dp := 3) h (fun x hx => (wi_nt (w := 141) (dp := 2) hx (fun y hy => (wi_nt (w := 140) (dp := 1) hy (fun z hz => hz.1) (by decide) (by decide))) (by decide) (by decide))) (by decide) (by decide))
theorem c_law {c : CA} {C : Addr} {TT : List (Addr × Str)} (T : Txt P w K mg base c) (c_law_pen : C8.Cal P w K mg base 1 "_law_pen" (spPen K) []) (c_law_draw : C8.Cal P w K mg base 1 "_law_draw" (spDraw K) []) (c_law_pick : C8.Cal P w K mg base 2 "_law_pick" (spPick K) []) (c_law_hall : C8.Cal P w K mg base 5 "_law_hall" (spHall K) []) (c_law_made : C8.Cal P w K mg base 7 "_law_made" (spMade K TT C) [])
    (c_law_wish : C8.Cal P w K mg base 3 "_law_wish" (spWishF K) []) (c_law_bent : C8.Cal P w K mg base 4 "_law_bent" (spBentG K) []) (c_law_due : C8.Cal P w K mg base 3 "_law_due" (spDue K) []) (cneed_goal : CalX P w K mg base 4 "need_goal" (spNeed K C c.NoGoal.C))
    {f : Addr} {fd : FuncData} (F : C8.Def K mg "law" s_law f fd) : FnG P w K mg base CX0 8 f fd ["script"] (spLaw K TT) := by
  refine fng F sc_law (fun vs H Q E h => ?_) (fun cdv A outer s H vs Q E hgd hr h => ?_)
  · obtain ⟨a, L, rfl, _⟩ := h
    rfl
  · obtain ⟨a, L, rfl, hs, hl, hT, q⟩ := h
    have hu := hu_of hr
    have hu6 := hu64 hr
    refine ⟨_, (pss_cons (ps_set (i := 1) sc_law.nd rfl (.inr rfl) (C8.pe_c c_law_pen hr (by decide) (by rfl) (pa_cons (pv 0) pa_nil)))
  (pss_cons (ps_for PassesOwn.never rfl (pi_range1 rfl T.b_range (pa_cons (pe_op (op_addG (K := K)) pe_int (pe_callB (call_min2 rfl) (by rfl) T.b_min bt_min (pa_cons pe_int (pa_cons (pe_callB (call_lenG (K := K)) (by rfl) T.b_len bt_len (pa_cons (pv 0) pa_nil)) pa_nil)))) pa_nil)) (pg_name (i := 2) sc_law.nd rfl (.inl rfl))
    (C8.pss_cut (ps_set (i := 3) sc_law.nd rfl (.inr rfl) (C8.pe_c c_law_hall hr (by decide) (by rfl) (pa_cons (pv 1) (pa_cons (pe_tup (pa_cons pe_int (pa_cons pe_int (pa_cons pe_int (pa_cons pe_int pa_nil))))) pa_nil))))
  (C8.pss_cut (ps_set (i := 4) sc_law.nd rfl (.inl rfl) (C8.pe_c c_law_made hr (by decide) (by rfl) (pa_cons (pv 3) pa_nil)))
  (C8.pss_cut (ps_set (i := 5) sc_law.nd rfl (.inl rfl) (pe_tupleF (K := K) (by rfl) T.b_tuple (pe_lc (own := [("k", 12)]) rfl sc_law.nd (pi_range1 rfl T.b_range (pa_cons (C8.pe_c c_law_pick hr (by decide) (by rfl) (pa_cons (pv 1) (pa_cons (pe_lst (pa_cons pe_int (pa_cons pe_int (pa_cons pe_int (pa_cons pe_int (pa_cons pe_int (pa_cons pe_int (pa_cons pe_int pa_nil)))))))) pa_nil))) pa_nil)) (blkOk_by (by kernel_rfl)) (fun _ _ _ _ _ => (pg_name (i := 12) sc_law.nd rfl (.inl rfl))) (fun _ _ _ _ _ => pts_nil)
      (fun _ _ _ _ _ => (C8.pe_c c_law_wish hr (by decide) (by rfl) (pa_cons (pv 1) (pa_cons (pv 3) pa_nil)))))))
  (pss_one (ps_for PassesOwn.never rfl (pi_listK (K := K) (pe_lst (pa_cons (pv 5) (pa_cons (C8.pe_c c_law_bent hr (by decide) (by rfl) (pa_cons (pv 1) (pa_cons (pv 3) (pa_cons (pv 5) pa_nil)))) (pa_cons (C8.pe_c c_law_bent hr (by decide) (by rfl) (pa_cons (pv 1) (pa_cons (pv 3) (pa_cons (pe_slice (sl_F (K := K)) (pv 5) po_none (po_some pe_int)) pa_nil)))) pa_nil))))) (pg_name (i := 6) sc_law.nd rfl (.inl rfl))
    (C8.pss_cut (ps_par3 (i := 7) (j := 8) (l := 9) rfl sc_law.nd rfl rfl rfl (by decide) (by decide) (by decide) rfl rfl rfl (pa_cons (pe_callB (call_reprG hgd hu6) (by rfl) T.b_repr bt_repr (pa_cons (pv 6) pa_nil)) (pa_cons pe_non (pa_cons pe_int pa_nil))) rfl)
  (C8.pss_cut (ps_try_keepT (K := K) (i := 10) rfl rfl sc_law.nd rfl rfl ⟨rfl, by decide, .inl T.x_NoGoal.gC⟩ takes0 rfl (fun W pn xe tkW _ => (pss_one (ps_set (i := 9) sc_law.nd rfl (.inl rfl) (pe_cX tkW cneed_goal hr (by decide) (by rfl) (pa_cons (pv 4) (pa_cons (pv 6) pa_nil))))))
    (fun a oe cls d pn hz hf => (pss_one (ps_set (i := 8) sc_law.nd rfl (.inl rfl) (pv 10)))))
  (C8.pss_cut (ps_set (i := 11) sc_law.nd rfl (.inl rfl) (C8.pe_c c_law_due hr (by decide) (by rfl) (pa_cons (pv 3) (pa_cons (pv 6) pa_nil))))
  (pss_cons (ps_if (PW.pt (pw_or (pt_cmpR (op_neX (K := K) hu6) (pe_cmpR (op_isN) (pv 8) pe_non (nomark _)) (pe_cmpR (op_eqL0 (K := K) hu6) (pv 11) (pe_lst pa_nil) (nomark _)) (nomark _)) (pw_or (PW.pt (pw_and (pt_cmpR (op_isN) (pv 8) pe_non (nomark _)) (pw_and1 (pt_cmpR (op_notN) (pv 9) pe_non (nomark _))))) (pw_or1 (pt_cmpR (op_neX (K := K) hu6) (pe_callB (call_reprG hgd hu6) (by rfl) T.b_repr bt_repr (pa_cons (pv 6) pa_nil)) (pv 7) (nomark _)))))) (pss_one (ps_ret pe_bl)) pss_nil)
  (pss_one (ps_if (PW.pt (pw_and (pt_cmpR (op_notN) (pv 8) pe_non (nomark _)) (pw_and1 (pt_cmpR (op_neX (K := K) hu6) (pe_callB (call_reprG hgd hu6) (by rfl) T.b_repr bt_repr (pa_cons (pe_lst (pa_cons (pe_xattr (pv 8)) pa_nil)) pa_nil)) (pe_callB (call_reprG hgd hu6) (by rfl) T.b_repr bt_repr (pa_cons (pv 11) pa_nil)) (nomark _))))) (pss_one (ps_ret pe_bl)) pss_nil))))))))))))
  (pss_one (ps_ret pe_bl)))), ?_⟩
    -- the pen
    refine ⟨.ref a, rfl, a, L, rfl, hs, hl, fun p qc G0 np s0 pen0 => ?_⟩
    have T0 := hT.ext s0
    have hs0 := sqL_at (fun o => s0 _ o) hs
    refine ⟨.ref a, rfl, .inl ⟨_, .inl hs0, ?_⟩⟩
    rw [List.length_map]
    refine ⟨_, _, rfl, ?_⟩
    refine ⟨_, rfl, by split <;> omega, by split <;> omega, ?_⟩
    have nb : ((4 : Int) + if (L.length : Int) < 6 then (L.length : Int) else 6).toNat ≤ 10 := by split <;> omega
    generalize ((4 : Int) + if (L.length : Int) < 6 then (L.length : Int) else 6).toNat = nt at nb
    refine for_range (fun i σ G => ∃ d2 d3 d4 d5 d6 d7 d8 d9 d10 d11 d12 : Option V, σ = [some (.ref a), some (.ref p), d2, d3, d4, d5, d6, d7, d8, d9, d10, d11, d12] ∧ Pen K G p qc (4000 * i) ∧ LamX.Tabs TT G) ⟨_, _, _, _, _, _, _, _, _, _, _, rfl, pen0, T0⟩ (fun i σ G hi pv => ?_) (fun σ G pv => ?_)
    rotate_left
    · obtain ⟨d2, d3, d4, d5, d6, d7, d8, d9, d10, d11, d12, rfl, _⟩ := pv
      exact q _
    · obtain ⟨d2, d3, d4, d5, d6, d7, d8, d9, d10, d11, d12, rfl, pen, tab⟩ := pv
      -- a hall
      refine ⟨fun σ G => ∃ (h : Addr) (x : HallH), σ = [some (.ref a), some (.ref p), some (.int (0 + i)), some (.ref h), d4, d5, d6, d7, d8, d9, d10, d11, d12] ∧ Pen K G p qc (4000 * i + 2021) ∧ LamX.Tabs TT G ∧ HallAt (· ≠ p) K G h x ∧ HallOk 4 5 3 3 x, ?_, ?_⟩
      · refine ⟨.ref p, rfl, by show 4 ≤ sizeLine; decide, fun u1 nu1 => ?_⟩
        have k1 := same_new nu1 (o := .tup [.int 4, .int 5, .int 3, .int 3])
        have q1 := pen.off nu1
        have e1 : (upd G u1 (.tup [.int 4, .int 5, .int 3, .int 3])) u1 = some (.tup [.int 4, .int 5, .int 3, .int 3]) := upd_same
        have penD := pen.same k1
        have tabD := tab.ext k1
        generalize upd G u1 (.tup [.int 4, .int 5, .int 3, .int 3]) = Ga at k1 e1 penD tabD
        refine ⟨p, u1, qc, 4000 * i, 4, 5, 3, 3, rfl, penD, by omega, q1, .inl (.inl e1), by decide, by decide, by decide, fun h x Z ok hall kZ penZ nh => ?_⟩
        obtain ⟨t2, r2, eP2, _⟩ := id penD
        exact ⟨h, x, rfl, penZ.le (by omega), tabs_kp tabD eP2 kZ, hall, ok⟩
      rintro σ1 G1 ⟨h, x, rfl, pen1, tab1, hall1, ok⟩
      -- made
      refine ⟨fun σ Z => ∃ m : Addr, σ = [some (.ref a), some (.ref p), some (.int (0 + i)), some (.ref h), some (.ref m), d5, d6, d7, d8, d9, d10, d11, d12] ∧ LSt K C p h m qc (4000 * i + 2021) TT x Z, ?_, ?_⟩
      · exact ⟨.ref h, rfl, _, h, x, 4, 5, 3, 3, rfl, hall1, ok, by decide, by decide, by decide, by decide, tab1, fun m Z nm eZ tZ oZ => ⟨m, rfl, LSt.made pen1 hall1 eZ tZ oZ⟩⟩
      rintro σ2 G2 ⟨m, rfl, st⟩
      clear pen1 tab1 hall1
      -- a goal
      refine ⟨fun σ Z => ∃ (ug : Addr) (gs : List PyData), σ = [some (.ref a), some (.ref p), some (.int (0 + i)), some (.ref h), some (.ref m), some (.ref ug), d6, d7, d8, d9, d10, d11, d12] ∧ LSt K C p h m qc (4000 * i + 2200) TT x Z ∧ Tp (fun _ => False) Z ug gs ∧ gs.length ≤ 9 ∧ ∀ z ∈ gs, Wi [3, 1] z, ?_, ?_⟩
      · refine ⟨.ref p, rfl, by show 7 ≤ sizeLine; decide, fun l1 n1 => ?_⟩
        have k1 := same_new n1 (o := .lst [.int 0, .int 1, .int 2, .int 3, .int 7, .int 8, .int 9])
        have e1 : (upd G2 l1 (.lst [.int 0, .int 1, .int 2, .int 3, .int 7, .int 8, .int 9])) l1 = some (.lst [.int 0, .int 1, .int 2, .int 3, .int 7, .int 8, .int 9]) := upd_same
        have l1p := st.pen.off n1
        have st1 := st.same k1
        generalize upd G2 l1 (.lst [.int 0, .int 1, .int 2, .int 3, .int 7, .int 8, .int 9]) = A1 at e1 st1 k1
        refine ⟨p, .ref l1, qc, 4000 * i + 2021, _, rfl, st1.pen, by omega, .inl ⟨l1, rfl, l1p, .inl (.inl (.inl e1))⟩, by decide, by decide, fun v Z mv kz pz => ?_⟩
        obtain ⟨nn, rfl, n0', n9⟩ : ∃ nn : Int, v = .int nn ∧ 0 ≤ nn ∧ nn ≤ 9 := by
          simp only [List.mem_cons, List.not_mem_nil, or_false] at mv
          rcases mv with rfl | rfl | rfl | rfl | rfl | rfl | rfl <;> exact ⟨_, rfl, by decide, by decide⟩
        have stZ := st1.kp kz pz
        refine ⟨nn, rfl, by omega, by omega, fun D nD => ?_⟩
        have t9 : nn.toNat ≤ 9 := by omega
        generalize nn.toNat = tt at t9
        have Dp := stZ.pen.off nD
        refine lc_range (fun j Y => Kp p Z Y ∧ Pen K Y p qc (4000 * i + 2022 + 12 * j) ∧ ∃ (gvs : List V) (gs : List PyData), Y D = some (.lst gvs) ∧ ThAll (fun _ => False) Y gvs gs ∧ gs.length = j ∧ ∀ z ∈ gs, Wi [3, 1] z) ⟨fun b u nb e => by rw [upd_ne (ne_of_none e nD)]; exact e, stZ.pen.wr stZ.pen nD, [], [], upd_same, .nil, rfl, fun _ h => nomatch h⟩ (fun j Y hj pv => ?_) (fun Y pv => ?_)
        · obtain ⟨kY, pY, gvs, gs, y1, y2, y3, y4⟩ := pv
          have hj9 : j < tt := hj
          refine ⟨rfl, yes_if ⟨.ref p, by kernel_rfl, .ref h, by kernel_rfl, p, h, qc, _, 4, 5, 3, 3, x, rfl, pY, by omega, (stZ.kp kY pY).hall, ok, by decide, by decide, by decide, by decide, fun v g Y2 k2 pen2 th okg => ?_⟩⟩
          have y1' := k2 _ _ Dp y1
          refine ⟨_, y1', by rw [y2.length, sizeLine_eq]; omega, fun b u nb e => ?_, (pen2.wr stZ.pen nD).le (by omega), gvs ++ [v], gs ++ [g.data], upd_same, ?_, by rw [List.length_append, y3]; rfl, fun z hz => ?_⟩
          · rw [upd_ne (ne_of_none e nD)]
            exact k2 _ _ nb (kY b u nb e)
          · exact ((y2.kp pY (fun _ z => z.elim) k2).append (.cons th .nil)).mut y1' fun _ z => z.elim
          · rcases List.mem_append.mp hz with hz | hz
            · exact y4 z hz
            · rw [List.mem_singleton.mp hz]; exact okg.2
        obtain ⟨kY, pY, gvs, gs, y1, y2, y3, y4⟩ := pv
        refine ⟨D, _, rfl, .inl (.inl y1), fun ug og nug nog => ?_⟩
        have a3 := same_new nug (o := .frz og (.tup gvs))
        exact ⟨ug, gs, rfl, (stZ.kp kY (pY.le (by omega))).same a3, ⟨gvs, ⟨og, upd_same, nog⟩, y2.same a3⟩, by omega, y4⟩
      rintro σ3 G3 ⟨ug, gs, rfl, st3, tg, gl, gw⟩
      clear st
      -- the three things
      have ug1 : ∀ a : Addr, (fun _ => False) a → a ≠ p := fun _ z => z.elim
      have wg : Wi [9, 3, 1] (.tuple gs) := wi_tup gl gw
      refine ⟨.ref ug, rfl, .ref p, rfl, .ref h, rfl, .ref ug, rfl, ?_⟩
      refine ⟨fun _ => False, p, h, ug, gs, 9, 3, qc, 4000 * i + 2200, 4, 5, 3, 3, x, rfl, st3.pen, by omega, st3.hall, ok, by decide, by decide, by decide, by decide, ug1, tg, wg, by decide, by decide, by decide, by decide, fun v1 d1 Z1 k1 pen1 th1 wi1 => ?_⟩
      have tg1 := tg.kp st3.pen ug1 k1
      refine ⟨.ref p, rfl, .ref h, rfl, .ref ug, rfl, 3, rfl, tpTo (k := 3) tg1 fun b2 Z2 s2 tp2 => ?_⟩
      have st2 := (st3.kp k1 pen1).same s2
      have wg3 : Wi [9, 3, 1] (.tuple (gs.take 3)) := wi_tup (by rw [List.length_take]; omega) fun z hz => gw z (List.mem_of_mem_take hz)
      refine ⟨fun _ => False, p, h, b2, gs.take 3, 9, 3, qc, 4000 * i + 2230, 4, 5, 3, 3, x, rfl, st2.pen, by omega, st2.hall, ok, by decide, by decide, by decide, by decide, ug1, tp2, wg3, by decide, by decide, by decide, by decide, fun v3 d3 Z3 k3 pen3 th3 wi3 => ?_⟩
      have st4 := st2.kp k3 pen3
      obtain ⟨_, _, g3p, _⟩ := id st3.pen
      obtain ⟨_, _, g2p, _⟩ := id st2.pen
      have k13 : Kp p G3 Z3 := (k1.same s2).trans k3
      have thA := (tg.kp st3.pen ug1 k13).th
      have thB : Th (fun a => a ≠ p) Z3 v1 d1 := ((Th.kp (th1.same s2) st2.pen (fun a ha => by
        rcases ha with ha | ha
        · exact ha.elim
        · exact fun z => by rw [z, g3p] at ha; cases ha) k3)).wider fun a ha => by
        rcases ha with ha | ha
        · exact ha.elim
        · exact fun z => by rw [z, g3p] at ha; cases ha
      have thC : Th (fun a => a ≠ p) Z3 v3 d3 := th3.wider fun a ha => by
        rcases ha with ha | ha
        · exact ha.elim
        · exact fun z => by rw [z, g2p] at ha; cases ha
      have thA : Th (fun a => a ≠ p) Z3 (.ref ug) (.tuple gs) := thA.wider fun _ z => z.elim
      have wiA : Wi [9, 5, 1] (.tuple gs) := wi_whole wg (by decide) (by decide)
      clear st3 st2 tg tg1 th1 th3 k1 k3 tp2
      refine ⟨by show 3 ≤ sizeLine; decide, fun lt nlt => ⟨lt, rfl, ⟨_, .inl (.inl upd_same)⟩, ?_⟩⟩
      have s5 := same_new nlt (o := .lst [.ref ug, v1, v3])
      have e5 : (upd Z3 lt (.lst [.ref ug, v1, v3])) lt = some (.lst [.ref ug, v1, v3]) := upd_same
      have st5 := st4.same s5
      have things : ∀ y ∈ [V.ref ug, v1, v3], ∃ d, Th (fun a => a ≠ p) (upd Z3 lt (.lst [.ref ug, v1, v3])) y d ∧ Wi [9, 5, 1] d := fun y hy => by
        simp only [List.mem_cons, List.not_mem_nil, or_false] at hy
        rcases hy with rfl | rfl | rfl
        · exact ⟨_, thA.same s5, wiA⟩
        · exact ⟨_, thB.same s5, wi1⟩
        · exact ⟨_, thC.same s5, wi3⟩
      generalize upd Z3 lt (.lst [.ref ug, v1, v3]) = G6 at s5 e5 st5 things
      refine for_it (walk_list (a := lt) (xs := [V.ref ug, v1, v3])) (fun j σ Z => ∃ (d6 d7 d8 d9 d10 d11 : Option V), σ = [some (.ref a), some (.ref p), some (.int (0 + i)), some (.ref h), some (.ref m), some (.ref ug), d6, d7, d8, d9, d10, d11, d12] ∧ Same G6 Z) ⟨_, _, _, _, _, _, rfl, fun _ _ e => e⟩ (fun j σ Z _ pv => by obtain ⟨_, _, _, _, _, _, _, s⟩ := pv; exact .inl (.inl (s _ _ e5))) (fun j y σ Z Z' hj pv hy => ?_) (fun σ Z pv => ?_)
      · obtain ⟨rfl, hv⟩ := hy
        obtain ⟨d6, d7, d8, d9, d10, d11, rfl, sZ⟩ := pv
        obtain ⟨d, thd, wid⟩ := things y (List.mem_of_getElem? hv)
        obtain ⟨r1, r2, r3⟩ := (wi_nt5 wid).repr (by decide) (by decide)
        have thZ := thd.same sZ
        have stZ := st5.same sZ
        have shD : ∀ z ∈ partsD d, ShortD z := fun z hz => by
          cases d with
          | tuple ds => exact wi_short ((wi_inv wid).2 z hz)
          | _ => cases hz
        refine ⟨fun σ Y => σ = [some (.ref a), some (.ref p), some (.int (0 + i)), some (.ref h), some (.ref m), some (.ref ug), some y, some (.str d.shown), some .non, some (.int 0), d10, d11, d12] ∧ Same Z' Y, ?_, ?_⟩
        · exact ⟨y, rfl, y, d, rfl, thZ.dq, r1, r2, r3, _, _, _, rfl, rfl, fun _ _ e => e⟩
        rintro σ7 G7 ⟨rfl, s7⟩
        have thY := thZ.same s7
        have stY := stZ.same s7
        have bnd : ∀ k, needB x d = some (some k) → k < 9 := fun k hk => by
          cases d with
          | tuple ds =>
            have hk : (if 8 < ds.length then some none else (ds.findIdx? fun d => !isWishB x d).map some) = some (some k) := hk
            split at hk
            · cases hk
            · obtain ⟨k', h1, h2⟩ := Option.map_eq_some_iff.mp hk
              cases h2
              have := (List.findIdx?_eq_some_iff_getElem.mp h1).1
              omega
          | _ => cases hk
        -- asked
        refine ⟨fun σ Y => ∃ (cv fv : V) (d10 : Option V), σ = [some (.ref a), some (.ref p), some (.int (0 + i)), some (.ref h), some (.ref m), some (.ref ug), some y, some (.str d.shown), some cv, some fv, d10, d11, d12] ∧ Same G7 Y ∧ ((needB x d = none ∧ cv = .non ∧ fv = .non) ∨ ∃ o ce dd, needB x d = some o ∧ cv = .ref ce ∧ ExAt Y ce c.NoGoal.C (some dd) ∧ ExD Y dd [("at", atV o)]), ?_, ?_⟩
        · refine ⟨.ref m, rfl, y, rfl, (· ≠ p), _, m, y, d, 4, 5, 3, 3, x, rfl, stY.obj, ok, by decide, by decide, by decide, thY, shD, fun hn Y sY => ⟨_, _, _, rfl, sY, .inl ⟨hn, rfl, rfl⟩⟩, fun o ho dd Y nd sY ed => ?_⟩
          refine ⟨c.NoGoal.C, true, rfl, exm_self T.x_NoGoal.xc T.x_NoGoal.xi.hdct nr_V, fun _ ce nce => ?_, fun z => nomatch z⟩
          refine ⟨.ref ce, rfl, fun _ => ?_⟩
          have s8 := same_new nce (o := exk ce c.NoGoal.C (some dd))
          exact ⟨_, _, _, rfl, sY.trans s8, .inr ⟨o, ce, dd, ho, rfl, .inr (.inl upd_same), .inr (s8 _ _ ed)⟩⟩
        rintro σ8 G8 ⟨cv, fv, d10, rfl, s8, cs⟩
        refine ⟨fun σ Y => ∃ du : Addr, σ = [some (.ref a), some (.ref p), some (.int (0 + i)), some (.ref h), some (.ref m), some (.ref ug), some y, some (.str d.shown), some cv, some fv, d10, some (.ref du), d12] ∧ Same G8 Y ∧ Y du = some (.lst (dueV x d)), ?_, ?_⟩
        · exact ⟨.ref h, rfl, y, rfl, (· ≠ p), _, h, y, d, 4, 5, 3, 3, x, rfl, (stY.same s8).hall, ok, by decide, by decide, by decide, thY.same s8, shD, fun l Y sY _ el => ⟨l, rfl, sY, el⟩⟩
        rintro σ9 G9 ⟨du, rfl, s9, edu⟩
        have th9 := (thY.same s8).same s9
        have dq9 := th9.dq (K := K)
        rcases cs with ⟨hn, rfl, rfl⟩ | ⟨o, ce, dd, ho, rfl, ea, ed⟩
        · have ev : dueV x d = [] := by unfold dueV; rw [hn]; rfl
          rw [ev] at edu
          refine ⟨.non, rfl, rfl, .ref du, rfl, by show 0 ≤ sizeLine; decide, fun el nel => ⟨du, el, [], rfl, rfl, .inl (.inl (same_new nel _ _ edu)), .inl (.inl upd_same), ?_⟩⟩
          have s10 := same_new nel (o := .lst [])
          generalize upd G9 el (.lst []) = G10 at s10
          refine ne_sameL ⟨_, rfl, iteF ?_⟩
          refine ⟨.non, rfl, rfl, _, rfl, iteT ⟨.non, rfl, rfl, _, rfl, iteF ?_⟩⟩
          refine ⟨y, rfl, y, d, rfl, Dq.mono s10 dq9, r1, r2, r3, .str _, rfl, ne_sameL ⟨_, rfl, iteF ?_⟩⟩
          refine ⟨.non, rfl, rfl, _, rfl, iteF ?_⟩
          exact ⟨_, _, _, _, _, _, rfl, (((sZ.trans s7).trans s8).trans s9).trans s10⟩
        · have ev : dueV x d = [atV o] := by unfold dueV; rw [ho]; rfl
          rw [ev] at edu
          refine ⟨.ref ce, rfl, rfl, .ref du, rfl, by show 0 ≤ sizeLine; decide, fun el nel => ⟨du, el, _, rfl, rfl, .inl (.inl (same_new nel _ _ edu)), .inl (.inl upd_same), ?_⟩⟩
          have s10 := same_new nel (o := .lst [])
          generalize upd G9 el (.lst []) = G10 at s10
          refine ne_sameL ⟨_, rfl, iteF ?_⟩
          refine ⟨.ref ce, rfl, rfl, _, rfl, iteF ?_⟩
          refine ⟨y, rfl, y, d, rfl, Dq.mono s10 dq9, r1, r2, r3, .str _, rfl, ne_sameL ⟨_, rfl, iteF ?_⟩⟩
          refine ⟨.ref ce, rfl, rfl, _, rfl, iteT ?_⟩
          have s910 := s9.trans s10
          have ea : ExAt G10 ce c.NoGoal.C (some dd) := ea.imp (s910 _ _) (Or.imp (s910 _ _) fun h => nomatch h.1)
          have ed : ExD G10 dd _ := ed.imp (s910 _ _) (s910 _ _)
          refine ⟨.ref ce, rfl, ce, c.NoGoal.C, dd, _, atV o, rfl, T.x_NoGoal.xi, ea, ed, T.x_NoGoal.off, rfl, by show 1 ≤ sizeLine; decide, fun l nl => ?_⟩
          obtain ⟨od, qd, n1⟩ : ∃ od : PyData, (∀ H : Hp, Dq anyA K H (atV o) od) ∧ Nt 140 1 od := by
            cases o with
            | none => exact ⟨.none, fun _ => .non, (atm_non).1⟩
            | some k => exact ⟨.int k, fun _ => .int _, nt_int (by have := bnd k ho; omega)⟩
          obtain ⟨q1, q2, q3⟩ := (nt_lst (m := 1) (ds := [od]) (fun z hz => by rw [List.mem_singleton.mp hz]; exact n1) (Nat.le_refl 1)).repr (by decide) (by decide)
          have s11 := same_new nl (o := .lst [atV o])
          refine ⟨.ref l, _, rfl, .lst trivial (.inl (.inl upd_same)) (.cons (qd _) .nil), q1, q2, q3, .ref du, rfl, .ref du, _, rfl, .lst trivial (.inl (.inl (s11 _ _ (s10 _ _ edu)))) (.cons (qd _) .nil), q1, q2, q3, ne_sameL ⟨_, rfl, iteF ?_⟩⟩
          exact ⟨_, _, _, _, _, _, rfl, ((((sZ.trans s7).trans s8).trans s9).trans s10).trans s11⟩
      · obtain ⟨d6, d7, d8, d9, d10, d11, rfl, sZ⟩ := pv
        have st7 := st5.same sZ
        exact ⟨_, _, _, _, _, _, _, _, _, _, _, rfl, st7.pen.le (by omega), st7.tab⟩
end
end Wd

set_option Elab.async false
set_option linter.all false
set_option maxRecDepth 100000
set_option maxHeartbeats 4000000
/-! The end of a law whose def is an FnG, where some defs make lambdas: their tables are told. -/
namespace Wd
open PySem PySem.Spec PyProof.Rows L2 PySem.W PySem.Calls
/-- an abstract heap at the law's call: the script at most, the tables -/
structure AtCall (tb : List Addr) (a : Addr) (G : Hp) : Prop where
  tab : ∀ t ∈ tb, G t = some (.tbl #[])
  only : ∀ b, G b = none ∨ b ∈ tb ∨ ∃ o xs, G b = some (.frz o (.lst xs))
  track : ∀ b, G b ≠ none → b = a ∨ b ∈ tb
theorem endT_core {P : Program} {w : World} {K : PySem.W.Frag} {mg mb : Str → Option Value} {k : Nat} {fa a : Addr} {fd : FuncData} {x : Str} {sp : Sp} {z : Shared} {us : List Value} (cs : List (Addr × Addr))
    (inK : K.In z.heap) (hns : z.heap.Ns mainGlobals mg) (hb : z.heap.Ns builtinsNs mb) (hbb : ∀ x : Str, x ≠ "__name__" → mb x = bootBuiltins x) (nolim : z.heap.NoLimit) (hgn : z.gens = #[])
    (empty : ∀ t ∈ cs.map Prod.snd, z.heap.get? t = some (tabObj #[])) (offT : ∀ t ∈ cs.map Prod.snd, K.lookup t = none) (heads : ∀ c ∈ cs, CodeHd z.heap c.1 c.2)
    (bmain : ∃ (bm : Addr) (ob : Obj), mg "__builtins__" = some (.ref bm) ∧ bm ≠ builtinsNs ∧ z.heap.get? bm = some ob ∧ ob.cls = .type "module" ∧ ob.dict = some builtinsNs ∧ ob.data = .plain)
    (obj : z.heap.get? a = some { cls := .type "list", data := .seq us.toArray }) (hr : Room k callerA)
    (F : ∀ base : Heap, K.In base → base.Ns mainGlobals mg → (∀ c ∈ cs, LamX.TabB base mg c.1 c.2) → FnG P w K mg base CX0 k fa fd [x] sp) (bind : ∀ (s : Shared) (u : Value), BindsTo s fd ⟨[u], []⟩ [(x, u)])
    (G : Hp) (at' : AtCall (cs.map Prod.snd) a G) (hsp : sp [.ref a] G (fun v _ => v = .bl true) fun _ _ _ => False) (ok : HOk P w G z.heap) (offK : G a ≠ none → K.lookup a = none) :
    codeAny (model P w) callerA (.call (.ref fa) ⟨[.ref a], []⟩) (fun r z2 => r = .ok (.ret (.bool true)) ∧ OldK z.heap z2.heap ∧ z2.os = z.os ∧ AllBare z2.gens) z := by
  -- what is neither the script nor a table is of the base
  have free : ∀ {b : Addr} {o : Obj}, z.heap.get? b = some o → (∀ vs n, o.data ≠ .seq vs n) → o.data ≠ .fields #[] → G b = none := by
    intro b o e n1 n2
    cases q : G b with
    | none => rfl
    | some u =>
      rcases at'.track b (by rw [q]; simp) with eb | eb
      · subst eb
        rw [obj] at e
        cases e
        exact absurd rfl (n1 _ _)
      · rw [empty b eb] at e
        cases e
        exact absurd rfl n2
  have freeD : ∀ {b : Addr} {o : Obj} {es : Array DictEntry} {ep : Nat}, z.heap.get? b = some o → o.data = .dict es ep → G b = none := fun {b o es ep} e d =>
    free e (fun vs n t => by rw [d] at t; cases t) (fun t => by rw [d] at t; cases t)
  have freeP : ∀ {b : Addr} {o : Obj}, z.heap.get? b = some o → o.data = .plain → G b = none := fun {b o} e d =>
    free e (fun vs n t => by rw [d] at t; cases t) (fun t => by rw [d] at t; cases t)
  have ns2 : ∀ {b : Addr} {m : Str → Option Value}, z.heap.Ns b m → (hidT z.heap G).Ns b m := fun {b m} ⟨o, es, ep, e, d, r⟩ => ⟨o, es, ep, hidT_get e (freeD e d), d, r⟩
  have inB : K.In (hidT z.heap G) := by
    intro b o e
    refine hidT_get (inK b o e) ?_
    cases q : G b with
    | none => rfl
    | some u =>
      rcases at'.track b (by rw [q]; simp) with eb | eb
      · subst eb
        rw [offK (by rw [q]; simp)] at e
        cases e
      · rw [offT b eb] at e
        cases e
  have hM : L2.Mod K mg (hidT z.heap G) := ⟨inB, ns2 hns, ⟨mb, ns2 hb, hbb⟩, let ⟨mc, h1, h2⟩ := nolim; ⟨mc, ns2 h1, h2⟩⟩
  have tabs : ∀ c ∈ cs, LamX.TabB (hidT z.heap G) mg c.1 c.2 := by
    intro c hc
    have e0 := empty c.2 (List.mem_map.mpr ⟨c, hc, rfl⟩)
    refine ⟨?_, ?_, ?_⟩
    · obtain ⟨o, vs, file, tf, fl, tg, inF, tx, tt, g1, g2, g3, g4, g5, g6, g7, g8, g9, ne⟩ := heads c hc
      have fr : G c.1 = none := free g1 (fun us n t => by rw [g3] at t; cases t) (fun t => by
        rw [g3] at t
        cases t
        simp at g4)
      exact ⟨o, vs, file, tf, fl, tg, inF, tx, tt, hidT_get g1 fr, g2, g3, g4, g5, g6, g7, g8, g9, ne⟩
    · obtain ⟨bm, ob, b1, b2, b3, b4, b5, b6⟩ := bmain
      refine ⟨bm, ob, b1, b2, fun t => ?_, fun t => ?_, hidT_get b3 (freeP b3 b6), b4, b5, b6⟩
      · obtain ⟨o, es, ep, e, d, _⟩ := hns
        rw [t, e] at b3
        cases b3
        rw [d] at b6
        cases b6
      · rw [t, e0] at b3
        cases b3
        cases b6
    · intro t
      obtain ⟨o, es, ep, e, d, _⟩ := hns
      rw [t, e0] at e
      cases e
      cases d
  have en : Env0 P w K mg (hidT z.heap G) callerA [] z G := ⟨rfl, hM, fun b o e => of_hidT e, Nat.le_of_eq (hidT_size _ _), trivial, (by intro b hb; cases hb), ok, .of_eq hgn⟩
  refine codeAny_mono ((F _ inB (ns2 hns) tabs).run callerA [] z G ⟨[.ref a], []⟩ [.ref a] [.ref a] _ _ rfl hr en (bind z (.ref a)) (.cons rfl .nil) hsp) fun r z2 h => ?_
  match r, h with
  | .error e, h => exact False.elim h
  | .ok .next, h => exact False.elim h
  | .ok .brk, h => exact False.elim h
  | .ok .cont, h => exact False.elim h
  | .ok (.ret u), ⟨v, G', os, bare, un, ok', rv, q⟩ =>
    have q' : v = .bl true := q
    subst q'
    obtain rfl : u = Value.bool true := rv
    have stays : ∀ b o, b ∉ cs.map Prod.snd → z.heap.get? b = some o → z2.heap.get? b = some o := by
      intro b o nb e
      cases q : G b with
      | none => exact un.keep b o e q (by intro t; cases t) (by simp)
      | some u =>
        rcases at'.only b with t | t | ⟨ob, xs, t⟩
        · rw [q] at t; cases t
        · exact absurd t nb
        · have t2 := un.frzs b ob _ t
          obtain ⟨e1, _⟩ := ok b _ t
          obtain ⟨e2, _⟩ := ok' b _ t2
          rw [e] at e1
          cases e1
          exact e2
    have grows : ∀ t ∈ cs.map Prod.snd, ∃ more : Array Value, z2.heap.get? t = some (tabObj more) := by
      intro t ht
      obtain ⟨more, g⟩ := un.tbls t #[] (at'.tab t ht)
      exact ⟨_, ok' t _ g⟩
    refine ⟨rfl, ⟨fun b o e => ?_, fun b o e => ?_⟩, os, bare⟩
    · by_cases hb2 : b ∈ cs.map Prod.snd
      · obtain ⟨more, hm⟩ := grows b hb2
        obtain ⟨c, hc, rfl⟩ := List.mem_map.mp hb2
        have e0 := empty _ hb2
        rw [e0] at e
        cases e
        refine .inr (.inl ⟨((heads c hc).tab e0).isCodeTable, rfl, #[], more, rfl, ?_⟩)
        rw [Array.empty_append]
        exact hm
      · exact .inl (stays b o hb2 e)
    · by_cases hb2 : b ∈ cs.map Prod.snd
      · obtain ⟨more, hm⟩ := grows b hb2
        exact ⟨_, hm⟩
      · exact ⟨o, stays b o hb2 e⟩
theorem endT_call {P : Program} {w : World} {K : PySem.W.Frag} {mg mb : Str → Option Value} {k : Nat} {fa a : Addr} {fd : FuncData} {x : Str} {sp : Sp} {z : Shared} {us : List Value} {ks : List Int} (cs : List (Addr × Addr))
    (inK : K.In z.heap) (hns : z.heap.Ns mainGlobals mg) (hb : z.heap.Ns builtinsNs mb) (hbb : ∀ x : Str, x ≠ "__name__" → mb x = bootBuiltins x) (nolim : z.heap.NoLimit) (hgn : z.gens = #[])
    (empty : ∀ t ∈ cs.map Prod.snd, z.heap.get? t = some (tabObj #[])) (offT : ∀ t ∈ cs.map Prod.snd, K.lookup t = none) (heads : ∀ c ∈ cs, CodeHd z.heap c.1 c.2)
    (bmain : ∃ (bm : Addr) (ob : Obj), mg "__builtins__" = some (.ref bm) ∧ bm ≠ builtinsNs ∧ z.heap.get? bm = some ob ∧ ob.cls = .type "module" ∧ ob.dict = some builtinsNs ∧ ob.data = .plain)
    (obj : z.heap.get? a = some { cls := .type "list", data := .seq us.toArray }) (hi : IntsAre us ks) (hl : ks.length ≤ sizeLine) (hr : Room k callerA)
    (F : ∀ base : Heap, K.In base → base.Ns mainGlobals mg → (∀ c ∈ cs, LamX.TabB base mg c.1 c.2) → FnG P w K mg base CX0 k fa fd [x] sp) (bind : ∀ (s : Shared) (u : Value), BindsTo s fd ⟨[u], []⟩ [(x, u)])
    (hsp : ∀ G : Hp, (∀ t ∈ cs.map Prod.snd, G t = some (.tbl #[])) → SqL K G a (ks.map V.int) → sp [.ref a] G (fun v _ => v = .bl true) fun _ _ _ => False) :
    codeAny (model P w) callerA (.call (.ref fa) ⟨[.ref a], []⟩) (fun r z2 => r = .ok (.ret (.bool true)) ∧ OldK z.heap z2.heap ∧ z2.os = z.os ∧ AllBare z2.gens) z := by
  have rv := vals_ints hi
  have hlen := hi.length
  have na : a ∉ cs.map Prod.snd := fun t => by
    have e := empty a t
    rw [obj] at e
    have e2 : Data.seq us.toArray _ = Data.fields #[] := congrArg Obj.data (Option.some.inj e)
    cases e2
  cases hk : K.lookup a with
  | some o =>
    have e := inK a o hk
    rw [obj] at e
    cases e
    have hG : ∀ t ∈ cs.map Prod.snd, (fun b => if b ∈ cs.map Prod.snd then some (HO.tbl #[]) else none : Hp) t = some (.tbl #[]) := fun t ht => if_pos ht
    refine endT_core cs inK hns hb hbb nolim hgn empty offT heads bmain obj hr F bind (fun b => if b ∈ cs.map Prod.snd then some (.tbl #[]) else none) ⟨hG, fun b => ?_, fun b t => ?_⟩ (hsp _ hG (.inr ⟨_, us.toArray, _, hk, rfl, rfl, rfl, by rw [List.size_toArray, hlen]; exact hl, by simpa using rv⟩)) (fun b u t => ?_) (fun t => absurd (if_neg na) t)
    · by_cases c : b ∈ cs.map Prod.snd
      · exact .inr (.inl c)
      · exact .inl (if_neg c)
    · by_cases c : b ∈ cs.map Prod.snd
      · exact .inr c
      · exact absurd (if_neg c) t
    · by_cases c : b ∈ cs.map Prod.snd
      · have t' := (if_pos c).symm.trans t
        cases t'
        exact empty b c
      · have t' := (if_neg c).symm.trans t
        cases t'
  | none =>
    have hG : ∀ t ∈ cs.map Prod.snd, (fun b => if b = a then some (HO.frz { cls := .type "list", data := .seq us.toArray } (.lst (ks.map V.int))) else if b ∈ cs.map Prod.snd then some (HO.tbl #[]) else none : Hp) t = some (.tbl #[]) := fun t ht =>
      (if_neg (fun e => na (by rw [← e]; exact ht))).trans (if_pos ht)
    refine endT_core cs inK hns hb hbb nolim hgn empty offT heads bmain obj hr F bind (fun b => if b = a then some (.frz { cls := .type "list", data := .seq us.toArray } (.lst (ks.map V.int))) else if b ∈ cs.map Prod.snd then some (.tbl #[]) else none) ⟨hG, fun b => ?_, fun b t => ?_⟩ (hsp _ hG (.inl (.inr ⟨_, if_pos rfl⟩))) (fun b u t => ?_) fun _ => hk
    · by_cases c : b = a
      · exact .inr (.inr ⟨_, _, if_pos c⟩)
      · by_cases d : b ∈ cs.map Prod.snd
        · exact .inr (.inl d)
        · exact .inl ((if_neg c).trans (if_neg d))
    · by_cases c : b = a
      · exact .inl c
      · by_cases d : b ∈ cs.map Prod.snd
        · exact .inr d
        · exact absurd ((if_neg c).trans (if_neg d)) t
    · by_cases c : b = a
      · have t' := (if_pos c).symm.trans t
        cases t'
        subst c
        exact ⟨obj, by rw [List.length_map]; exact hl, us, _, rv, obj⟩
      · have t1 := (if_neg c).symm.trans t
        by_cases d : b ∈ cs.map Prod.snd
        · have t' := (if_pos d).symm.trans t1
          cases t'
          exact empty b d
        · have t' := (if_neg d).symm.trans t1
          cases t'
/-- what is known of the law's def at the head's heap -/
def LawG (l : PySem.W.OpenLaw) (w : World) (K : PySem.W.Frag) (k n : Nat) (x : Str) (mg : Str → Option Value) (fa : Addr) (h : Heap) : Prop :=
  ∃ (fd : FuncData) (cs : List (Addr × Addr)) (sp : Sp), (∀ t ∈ cs.map Prod.snd, h.get? t = some (tabObj #[])) ∧ (∀ t ∈ cs.map Prod.snd, K.lookup t = none) ∧ (∀ c ∈ cs, CodeHd h c.1 c.2) ∧ (∀ (s : Shared) (u : Value), BindsTo s fd ⟨[u], []⟩ [(x, u)]) ∧
    (∀ (G : Hp) (a : Addr) (ks : List Int), ks.length ≤ n → (∀ t ∈ cs.map Prod.snd, G t = some (.tbl #[])) → SqL K G a (ks.map V.int) → sp [.ref a] G (fun v _ => v = .bl true) fun _ _ _ => False) ∧
    ∀ base : Heap, K.In base → base.Ns mainGlobals mg → (∀ c ∈ cs, LamX.TabB base mg c.1 c.2) → FnG l.prog w K mg base CX0 k fa fd [x] sp
theorem walk_gT {l : PySem.W.OpenLaw} {n k : Nat} {q : Program} {loose : List Str} {XP : (Str → Option Value) → Heap → Prop} {YP : World → Heap → Prop} {d : DefRec} {K : Params → PySem.W.Frag} {x : Str}
    (hn : l.most = some n) (hn2 : n ≤ sizeLine) (hdf : d.params.defaults = []) (hr : Room k callerA) (hY : ∀ (w : World) (h : Heap), YP w h → (K w.params).In h)
    (F : ∀ (w : World) (mg : Str → Option Value) (fa : Addr) (h : Heap), YP w h → (K w.params).In h → h.Ns mainGlobals mg → mg d.name = some (.ref fa) → LawG l w (K w.params) k n x mg fa h) :
    PySem.W.WalkO q loose XP YP l.row.toRowW d [] (fun f vs => PySem.call f vs) := by
  refine Att.attach_call hn hdf fun w z0 z1 mg mb fa o pm cd doc a us ks Gr Y ho hd hcd hmg hobj hints hlen hg => ?_
  have inK := hY w _ Y
  obtain ⟨fd, cs, sp, e1, e2, e3, hb, hs, hF⟩ := F w mg fa _ Y inK Gr.T.g hmg
  exact endT_call cs inK Gr.T.g Gr.T.b Gr.T.builtins Gr.T.nolimit hg e1 e2 e3 Gr.T.bmain hobj hints (Nat.le_trans hlen hn2) hr hF hb fun G hG hS => hs G a ks hlen hG hS
end Wd

set_option Elab.async false
set_option linter.all false
set_option maxRecDepth 100000
set_option maxHeartbeats 8000000
namespace Wd
open PySem PySem.Spec PyProof.Rows L2
theorem xis_mk {K : PySem.W.Frag} {D : Addr} (h1 : PySem.W.findIn K (.ref D) "__getattribute__" = some (some (.builtin "BaseException.__getattribute__"))) (h2 : PySem.W.findIn K (.ref D) "__getattr__" = some none) (h3 : PySem.W.subIn K (.ref D) (.type "BaseException") = some true)
    (h4 : PySem.W.hasDictIn K D = true) (h5 : PySem.W.findIn K (.ref D) "__class__" = some (some (.builtin "object.__class__"))) (h6 : PySem.W.specialIn K (.builtin "object.__class__") "__get__" = some (some (.builtin "getset_descriptor.__get__"))) (h7 : PySem.W.takesIn K (.builtin "object.__class__") = some true)
    (h8 : PySem.W.mroIn K D (.type "object") = some true) : PySem.W.XIs K D := ⟨h1, h2, h3, h4, h5, h6, h7, h8⟩
theorem kbn_p {K : PySem.W.Frag} {fd : FuncData} {ps : List Str} {n : Nat} (h : ∀ us : List Value, us.length = n → bindArgs fd ⟨us, []⟩ = pure (ps.zip us)) : KBn K fd ps n [] (fun us _ => us) (fun vs _ => vs) :=
  ⟨fun s us ws _ l1 _ => .of_eq (h us l1), fun r _ => r⟩
theorem kbn_k2 {K : PySem.W.Frag} {fd : FuncData} {f g : Str} (h : ∀ u w z : Value, bindArgs fd ⟨[u], [(g, w), (f, z)]⟩ = pure [(("self" : Str), u), (f, z), (g, w)]) : KBn K fd ["self", f, g] 1 [g, f] (fun us ws => us ++ ws.reverse) (fun vs zs => vs ++ zs.reverse) :=
  ⟨fun s us ws _ l1 l2 => .of_eq (match us, ws, l1, l2 with | [u], [w, z], _, _ => h u w z), fun r rz => Vals.append r (by
    rename_i vs us zs ws
    clear r
    induction rz with
    | nil => exact .nil
    | cons a _ ih =>
      rw [List.reverse_cons, List.reverse_cons]
      exact Vals.append ih (.cons a .nil))⟩
theorem kbn_k {K : PySem.W.Frag} {fd : FuncData} {f : Str} (h : ∀ u w : Value, bindArgs fd ⟨[u], [(f, w)]⟩ = pure [(("self" : Str), u), (f, w)]) : KBn K fd ["self", f] 1 [f] (fun us ws => us ++ ws) (fun vs zs => vs ++ zs) :=
  ⟨fun s us ws _ l1 l2 => .of_eq (match us, ws, l1, l2 with | [u], [w], _, _ => h u w), fun r rz => Vals.append r rz⟩
abbrev s_NoGoal___init__ : Stmt := inClass (topS 2) 0
theorem sc_NoGoal___init__ : FnScope ["self", "at"] ["self", "at"] (C8.fnScope s_NoGoal___init__) := ⟨rfl, rfl, rfl, by decide +kernel, rfl, by decide +kernel, by decide +kernel⟩
theorem i_NoGoal {P : Program} {w : World} {K : PySem.W.Frag} {mg : Str → Option Value} {base : Heap} {f : Addr} {fd : FuncData} (F : C8.Fun K "__init__" "NoGoal.__init__" s_NoGoal___init__ f fd) : FnOk P w K mg base CX0 1 f fd ["self", "at"] (spI1 K "at") := by
  refine C8.fn0 F sc_NoGoal___init__ (fun vs H Q E h => ?_) (fun cdv A outer s H vs Q E hr h => ?_)
  · obtain ⟨a, C, y, rfl, _⟩ := h
    rfl
  · obtain ⟨a, C, y, rfl, ⟨B, n1, n2, bm, T, c⟩, off, e, q⟩ := h
    refine ⟨_, (pss_one (ps_xst (pv 0) (pv 1))), ?_⟩
    exact ⟨y, rfl, .ref a, rfl, a, C, B, n1, n2, bm, T, rfl, c, off, .inl ⟨e, fun dx nd nda => q _ (Kp.at ((Kp.refl a H).new nd)) ⟨some dx, .inl upd_same, .inr ⟨dx, rfl, .inl (by rw [upd_ne nda, upd_same])⟩⟩⟩⟩
theorem r_NoGoal {P : Program} {w : World} {K : PySem.W.Frag} {mg : Str → Option Value} {base : Heap} {f : Addr} {fd : FuncData} (F : C8.Fun K "__init__" "NoGoal.__init__" s_NoGoal___init__ f fd) : FnOk P w K mg base CX0 1 f fd ["self", "at"] (spI1x K "at") := by
  refine C8.fn0 F sc_NoGoal___init__ (fun vs H Q E h => ?_) (fun cdv A outer s H vs Q E hr h => ?_)
  · obtain ⟨a, C, y, rfl, _⟩ := h
    rfl
  · obtain ⟨a, C, y, rfl, ⟨B, n1, n2, bm, T, c⟩, off, e, q⟩ := h
    refine ⟨_, (pss_one (ps_xst (pv 0) (pv 1))), ?_⟩
    exact ⟨y, rfl, .ref a, rfl, a, C, B, n1, n2, bm, T, rfl, c, off, .inl ⟨e, fun dx nd nda => q _ dx (Kp.at ((Kp.refl a H).new nd)) nd upd_same (by rw [upd_ne nda, upd_same])⟩⟩
abbrev s_NoName___init__ : Stmt := inClass (topS 3) 0
theorem sc_NoName___init__ : FnScope ["self", "asked"] ["self", "asked"] (C8.fnScope s_NoName___init__) := ⟨rfl, rfl, rfl, by decide +kernel, rfl, by decide +kernel, by decide +kernel⟩
theorem i_NoName {P : Program} {w : World} {K : PySem.W.Frag} {mg : Str → Option Value} {base : Heap} {f : Addr} {fd : FuncData} (F : C8.Fun K "__init__" "NoName.__init__" s_NoName___init__ f fd) : FnOk P w K mg base CX0 1 f fd ["self", "asked"] (spI1 K "asked") := by
  refine C8.fn0 F sc_NoName___init__ (fun vs H Q E h => ?_) (fun cdv A outer s H vs Q E hr h => ?_)
  · obtain ⟨a, C, y, rfl, _⟩ := h
    rfl
  · obtain ⟨a, C, y, rfl, ⟨B, n1, n2, bm, T, c⟩, off, e, q⟩ := h
    refine ⟨_, (pss_one (ps_xst (pv 0) (pv 1))), ?_⟩
    exact ⟨y, rfl, .ref a, rfl, a, C, B, n1, n2, bm, T, rfl, c, off, .inl ⟨e, fun dx nd nda => q _ (Kp.at ((Kp.refl a H).new nd)) ⟨some dx, .inl upd_same, .inr ⟨dx, rfl, .inl (by rw [upd_ne nda, upd_same])⟩⟩⟩⟩
theorem r_NoName {P : Program} {w : World} {K : PySem.W.Frag} {mg : Str → Option Value} {base : Heap} {f : Addr} {fd : FuncData} (F : C8.Fun K "__init__" "NoName.__init__" s_NoName___init__ f fd) : FnOk P w K mg base CX0 1 f fd ["self", "asked"] (spI1x K "asked") := by
  refine C8.fn0 F sc_NoName___init__ (fun vs H Q E h => ?_) (fun cdv A outer s H vs Q E hr h => ?_)
  · obtain ⟨a, C, y, rfl, _⟩ := h
    rfl
  · obtain ⟨a, C, y, rfl, ⟨B, n1, n2, bm, T, c⟩, off, e, q⟩ := h
    refine ⟨_, (pss_one (ps_xst (pv 0) (pv 1))), ?_⟩
    exact ⟨y, rfl, .ref a, rfl, a, C, B, n1, n2, bm, T, rfl, c, off, .inl ⟨e, fun dx nd nda => q _ dx (Kp.at ((Kp.refl a H).new nd)) nd upd_same (by rw [upd_ne nda, upd_same])⟩⟩
theorem all_mk {l : PySem.W.OpenLaw} {w : World} {K : PySem.W.Frag} {h : Heap} {mg : Str → Option Value} {fa : Addr} (X : K.In h) (G : h.Ns mainGlobals mg) (hfa : mg "law" = some (.ref fa))
    {CNoGoal NNoGoal : Addr} {nmNoGoal qNoGoal : Str} {bsNoGoal subNoGoal : List Value} {snNoGoal : List Str} {abNoGoal : Bool} {colNoGoal : Option Bool} {ddNoGoal : Option Addr} {k0NoGoal k1NoGoal k2NoGoal k3NoGoal k5NoGoal : Option Value}
    {fxNoGoal : Addr} {ocxNoGoal kVxNoGoal docxNoGoal pmxNoGoal ctxNoGoal : Value} {cdxNoGoal : Value} {odxNoGoal anxNoGoal : Option Addr} {slxNoGoal : Array (Option Value)}
    {CNoName NNoName : Addr} {nmNoName qNoName : Str} {bsNoName subNoName : List Value} {snNoName : List Str} {abNoName : Bool} {colNoName : Option Bool} {ddNoName : Option Addr} {k0NoName k1NoName k2NoName k3NoName k5NoName : Option Value}
    {fxNoName : Addr} {ocxNoName kVxNoName docxNoName pmxNoName ctxNoName : Value} {cdxNoName : Value} {odxNoName anxNoName : Option Addr} {slxNoName : Array (Option Value)}
    {CHall : Addr}
    {fHall___init__ : Addr} {ocHall___init__ kVHall___init__ docHall___init__ pmHall___init__ ctHall___init__ : Value} {ccHall___init__ : Addr} {odHall___init__ anHall___init__ : Option Addr} {slHall___init__ : Array (Option Value)}
    {fHall_rooms : Addr} {ocHall_rooms kVHall_rooms docHall_rooms pmHall_rooms ctHall_rooms : Value} {cdHall_rooms : Value} {odHall_rooms anHall_rooms : Option Addr} {slHall_rooms : Array (Option Value)}
    {fHall_stones : Addr} {ocHall_stones kVHall_stones docHall_stones pmHall_stones ctHall_stones : Value} {cdHall_stones : Value} {odHall_stones anHall_stones : Option Addr} {slHall_stones : Array (Option Value)}
    {fHall_walkers : Addr} {ocHall_walkers kVHall_walkers docHall_walkers pmHall_walkers ctHall_walkers : Value} {cdHall_walkers : Value} {odHall_walkers anHall_walkers : Option Addr} {slHall_walkers : Array (Option Value)}
    {fis_name : Addr} {ocis_name kVis_name docis_name pmis_name ctis_name : Value} {cdis_name : Value} {odis_name anis_name : Option Addr} {slis_name : Array (Option Value)}
    {fis_whole : Addr} {ocis_whole kVis_whole docis_whole pmis_whole ctis_whole : Value} {cdis_whole : Value} {odis_whole anis_whole : Option Addr} {slis_whole : Array (Option Value)}
    {fneed_goal : Addr} {ocneed_goal kVneed_goal docneed_goal pmneed_goal ctneed_goal : Value} {cdneed_goal : Value} {odneed_goal anneed_goal : Option Addr} {slneed_goal : Array (Option Value)}
    {fis_wish : Addr} {ocis_wish kVis_wish docis_wish pmis_wish ctis_wish : Value} {cdis_wish : Value} {odis_wish anis_wish : Option Addr} {slis_wish : Array (Option Value)}
    {fis_wish_of_two : Addr} {ocis_wish_of_two kVis_wish_of_two docis_wish_of_two pmis_wish_of_two ctis_wish_of_two : Value} {cdis_wish_of_two : Value} {odis_wish_of_two anis_wish_of_two : Option Addr} {slis_wish_of_two : Array (Option Value)}
    {fkept_door : Addr} {ockept_door kVkept_door dockept_door pmkept_door ctkept_door : Value} {cckept_door : Addr} {odkept_door ankept_door : Option Addr} {slkept_door : Array (Option Value)}
    {fleads_of : Addr} {ocleads_of kVleads_of docleads_of pmleads_of ctleads_of : Value} {cdleads_of : Value} {odleads_of anleads_of : Option Addr} {slleads_of : Array (Option Value)}
    {fnamed : Addr} {ocnamed kVnamed docnamed pmnamed ctnamed : Value} {cdnamed : Value} {odnamed annamed : Option Addr} {slnamed : Array (Option Value)}
    {f_law_pen : Addr} {oc_law_pen kV_law_pen doc_law_pen pm_law_pen ct_law_pen : Value} {cd_law_pen : Value} {od_law_pen an_law_pen : Option Addr} {sl_law_pen : Array (Option Value)}
    {f_law_draw : Addr} {oc_law_draw kV_law_draw doc_law_draw pm_law_draw ct_law_draw : Value} {cd_law_draw : Value} {od_law_draw an_law_draw : Option Addr} {sl_law_draw : Array (Option Value)}
    {f_law_pick : Addr} {oc_law_pick kV_law_pick doc_law_pick pm_law_pick ct_law_pick : Value} {cd_law_pick : Value} {od_law_pick an_law_pick : Option Addr} {sl_law_pick : Array (Option Value)}
    {f_law_names : Addr} {oc_law_names kV_law_names doc_law_names pm_law_names ct_law_names : Value} {cd_law_names : Value} {od_law_names an_law_names : Option Addr} {sl_law_names : Array (Option Value)}
    {f_law_heft : Addr} {oc_law_heft kV_law_heft doc_law_heft pm_law_heft ct_law_heft : Value} {cd_law_heft : Value} {od_law_heft an_law_heft : Option Addr} {sl_law_heft : Array (Option Value)}
    {f_law_rows : Addr} {oc_law_rows kV_law_rows doc_law_rows pm_law_rows ct_law_rows : Value} {cd_law_rows : Value} {od_law_rows an_law_rows : Option Addr} {sl_law_rows : Array (Option Value)}
    {f_law_hall : Addr} {oc_law_hall kV_law_hall doc_law_hall pm_law_hall ct_law_hall : Value} {cd_law_hall : Value} {od_law_hall an_law_hall : Option Addr} {sl_law_hall : Array (Option Value)}
    {f_law_hall_of : Addr} {oc_law_hall_of kV_law_hall_of doc_law_hall_of pm_law_hall_of ct_law_hall_of : Value} {cd_law_hall_of : Value} {od_law_hall_of an_law_hall_of : Option Addr} {sl_law_hall_of : Array (Option Value)}
    {f_law_made : Addr} {oc_law_made kV_law_made doc_law_made pm_law_made ct_law_made : Value} {cd_law_made : Value} {od_law_made an_law_made : Option Addr} {sl_law_made : Array (Option Value)}
    {f_law_wish : Addr} {oc_law_wish kV_law_wish doc_law_wish pm_law_wish ct_law_wish : Value} {cd_law_wish : Value} {od_law_wish an_law_wish : Option Addr} {sl_law_wish : Array (Option Value)}
    {f_law_is_whole : Addr} {oc_law_is_whole kV_law_is_whole doc_law_is_whole pm_law_is_whole ct_law_is_whole : Value} {cd_law_is_whole : Value} {od_law_is_whole an_law_is_whole : Option Addr} {sl_law_is_whole : Array (Option Value)}
    {f_law_all_names : Addr} {oc_law_all_names kV_law_all_names doc_law_all_names pm_law_all_names ct_law_all_names : Value} {cd_law_all_names : Value} {od_law_all_names an_law_all_names : Option Addr} {sl_law_all_names : Array (Option Value)}
    {f_law_is_wish : Addr} {oc_law_is_wish kV_law_is_wish doc_law_is_wish pm_law_is_wish ct_law_is_wish : Value} {cd_law_is_wish : Value} {od_law_is_wish an_law_is_wish : Option Addr} {sl_law_is_wish : Array (Option Value)}
    {f_law_due : Addr} {oc_law_due kV_law_due doc_law_due pm_law_due ct_law_due : Value} {cd_law_due : Value} {od_law_due an_law_due : Option Addr} {sl_law_due : Array (Option Value)}
    {f_law_bent_wish : Addr} {oc_law_bent_wish kV_law_bent_wish doc_law_bent_wish pm_law_bent_wish ct_law_bent_wish : Value} {cd_law_bent_wish : Value} {od_law_bent_wish an_law_bent_wish : Option Addr} {sl_law_bent_wish : Array (Option Value)}
    {f_law_bent : Addr} {oc_law_bent kV_law_bent doc_law_bent pm_law_bent ct_law_bent : Value} {cd_law_bent : Value} {od_law_bent an_law_bent : Option Addr} {sl_law_bent : Array (Option Value)}
    {flaw : Addr} {oclaw kVlaw doclaw pmlaw ctlaw : Value} {cdlaw : Value} {odlaw anlaw : Option Addr} {sllaw : Array (Option Value)}
    {tkLETTERS : Tok}
    {tkLONGEST_NAME : Tok}
    {tkMOST_HEFT : Tok}
    {tkMOST_WISHES : Tok}
    {Pkept_door : Addr}
    {PHall___init__ : Addr}
    (et : ∀ t ∈ [Pkept_door, PHall___init__], h.get? t = some (PySem.W.tabObj #[]))
    (aNoGoal : PySem.W.nsIn K mainGlobals "NoGoal" = some (some (.ref CNoGoal)))
    (xNoGoal : K.lookup CNoGoal = some (excClassObj nmNoGoal qNoGoal CNoGoal NNoGoal bsNoGoal PySem.WX.tlV true snNoGoal subNoGoal abNoGoal colNoGoal ddNoGoal k0NoGoal k1NoGoal k2NoGoal k3NoGoal k5NoGoal "ValueError.__new__"))
    (sNoGoal : PySem.W.findIn K (.ref CNoGoal) "__setattr__" = some (some (.builtin "object.__setattr__")))
    (gNoGoal : PySem.W.findIn K (.ref CNoGoal) "__getattribute__" = some (some (.builtin "BaseException.__getattribute__")))
    (hNoGoal : PySem.W.findIn K (.ref CNoGoal) "__getattr__" = some none)
    (eNoGoal : PySem.W.subIn K (.ref CNoGoal) (.type "BaseException") = some true)
    (tNoGoal : PySem.W.typeIn K (.ref CNoGoal) = some (.type "type"))
    (kNoGoal : PySem.W.keepIn K (.ref CNoGoal) = true)
    (dNoGoal : PySem.W.hasDictIn K CNoGoal = true)
    (cNoGoal : PySem.W.findIn K (.ref CNoGoal) "__class__" = some (some (.builtin "object.__class__")))
    (mNoGoal : PySem.W.mroIn K CNoGoal (.type "object") = some true)
    (oNoGoalat : PySem.W.findIn K (.ref CNoGoal) "at" = some none)
    (iNoGoal : PySem.W.findIn K (.ref CNoGoal) "__init__" = some (some (.ref fxNoGoal)))
    (yNoGoal : PySem.W.typeIn K (.ref fxNoGoal) = some (.type "function"))
    (lxNoGoal : K.lookup fxNoGoal = some ⟨ocxNoGoal, odxNoGoal, .func (PySem.W.fnOf "__init__" "NoGoal.__init__" (C8.fnArgs s_NoGoal___init__) (C8.fnBody s_NoGoal___init__) (C8.fnScope s_NoGoal___init__) .none kVxNoGoal docxNoGoal pmxNoGoal anxNoGoal cdxNoGoal ctxNoGoal), slxNoGoal⟩)
    (vxNoGoal : PySem.W.codeIn K cdxNoGoal "NoGoal.__init__" = true)
    (aNoName : PySem.W.nsIn K mainGlobals "NoName" = some (some (.ref CNoName)))
    (xNoName : K.lookup CNoName = some (excClassObj nmNoName qNoName CNoName NNoName bsNoName PySem.WX.tlK true snNoName subNoName abNoName colNoName ddNoName k0NoName k1NoName k2NoName k3NoName k5NoName "LookupError.__new__"))
    (sNoName : PySem.W.findIn K (.ref CNoName) "__setattr__" = some (some (.builtin "object.__setattr__")))
    (gNoName : PySem.W.findIn K (.ref CNoName) "__getattribute__" = some (some (.builtin "BaseException.__getattribute__")))
    (hNoName : PySem.W.findIn K (.ref CNoName) "__getattr__" = some none)
    (eNoName : PySem.W.subIn K (.ref CNoName) (.type "BaseException") = some true)
    (tNoName : PySem.W.typeIn K (.ref CNoName) = some (.type "type"))
    (kNoName : PySem.W.keepIn K (.ref CNoName) = true)
    (dNoName : PySem.W.hasDictIn K CNoName = true)
    (cNoName : PySem.W.findIn K (.ref CNoName) "__class__" = some (some (.builtin "object.__class__")))
    (mNoName : PySem.W.mroIn K CNoName (.type "object") = some true)
    (oNoNameasked : PySem.W.findIn K (.ref CNoName) "asked" = some none)
    (iNoName : PySem.W.findIn K (.ref CNoName) "__init__" = some (some (.ref fxNoName)))
    (yNoName : PySem.W.typeIn K (.ref fxNoName) = some (.type "function"))
    (lxNoName : K.lookup fxNoName = some ⟨ocxNoName, odxNoName, .func (PySem.W.fnOf "__init__" "NoName.__init__" (C8.fnArgs s_NoName___init__) (C8.fnBody s_NoName___init__) (C8.fnScope s_NoName___init__) .none kVxNoName docxNoName pmxNoName anxNoName cdxNoName ctxNoName), slxNoName⟩)
    (vxNoName : PySem.W.codeIn K cdxNoName "NoName.__init__" = true)
    (sp_ : PySem.W.specialIn K (.builtin "object.__class__") "__get__" = some (some (.builtin "getset_descriptor.__get__")))
    (tk_ : PySem.W.takesIn K (.builtin "object.__class__") = some true)
    (aHall : PySem.W.nsIn K mainGlobals "Hall" = some (some (.ref CHall)))
    (pgHall : PySem.W.plainGet K CHall Str.empty = true)
    (hdHall : PySem.W.hasDictIn K CHall = true)
    (poHall : PySem.W.plainOver K CHall = true)
    (saHall : PySem.W.findIn K (.ref CHall) "__setattr__" = some (some (.builtin "object.__setattr__")))
    (mkHall : PySem.W.makesIn K CHall = true)
    (kcHall : PySem.W.keepIn K (.ref CHall) = true)
    (nHall_rooms : PySem.W.findIn K (.ref CHall) "_rooms" = some none)
    (nHall_doors : PySem.W.findIn K (.ref CHall) "_doors" = some none)
    (nHall_leads : PySem.W.findIn K (.ref CHall) "_leads" = some none)
    (nHall_stones : PySem.W.findIn K (.ref CHall) "_stones" = some none)
    (nHall_walkers : PySem.W.findIn K (.ref CHall) "_walkers" = some none)
    (nHall_hefts : PySem.W.findIn K (.ref CHall) "_hefts" = some none)
    (nHall_hands : PySem.W.findIn K (.ref CHall) "_hands" = some none)
    (aHall___init__ : PySem.W.findIn K (.ref CHall) "__init__" = some (some (.ref fHall___init__)))
    (iHall___init__ : PySem.W.isFn K (.ref fHall___init__) = true)
    (lHall___init__ : K.lookup fHall___init__ = some ⟨ocHall___init__, odHall___init__, .func (PySem.W.fnOf "__init__" "Hall.__init__" (C8.fnArgs s_Hall___init__) (C8.fnBody s_Hall___init__) (C8.fnScope s_Hall___init__) .none kVHall___init__ docHall___init__ pmHall___init__ anHall___init__ (.ref ccHall___init__) ctHall___init__), slHall___init__⟩)
    (vHall___init__ : PySem.W.codeIn K (.ref ccHall___init__) "Hall.__init__" = true)
    (pHall___init__ : PySem.W.keepIn K (.ref fHall___init__) = true)
    (aHall_rooms : PySem.W.findIn K (.ref CHall) "rooms" = some (some (.ref fHall_rooms)))
    (iHall_rooms : PySem.W.isFn K (.ref fHall_rooms) = true)
    (lHall_rooms : K.lookup fHall_rooms = some ⟨ocHall_rooms, odHall_rooms, .func (PySem.W.fnOf "rooms" "Hall.rooms" (C8.fnArgs s_Hall_rooms) (C8.fnBody s_Hall_rooms) (C8.fnScope s_Hall_rooms) .none kVHall_rooms docHall_rooms pmHall_rooms anHall_rooms cdHall_rooms ctHall_rooms), slHall_rooms⟩)
    (vHall_rooms : PySem.W.codeIn K cdHall_rooms "Hall.rooms" = true)
    (pHall_rooms : PySem.W.keepIn K (.ref fHall_rooms) = true)
    (aHall_stones : PySem.W.findIn K (.ref CHall) "stones" = some (some (.ref fHall_stones)))
    (iHall_stones : PySem.W.isFn K (.ref fHall_stones) = true)
    (lHall_stones : K.lookup fHall_stones = some ⟨ocHall_stones, odHall_stones, .func (PySem.W.fnOf "stones" "Hall.stones" (C8.fnArgs s_Hall_stones) (C8.fnBody s_Hall_stones) (C8.fnScope s_Hall_stones) .none kVHall_stones docHall_stones pmHall_stones anHall_stones cdHall_stones ctHall_stones), slHall_stones⟩)
    (vHall_stones : PySem.W.codeIn K cdHall_stones "Hall.stones" = true)
    (pHall_stones : PySem.W.keepIn K (.ref fHall_stones) = true)
    (aHall_walkers : PySem.W.findIn K (.ref CHall) "walkers" = some (some (.ref fHall_walkers)))
    (iHall_walkers : PySem.W.isFn K (.ref fHall_walkers) = true)
    (lHall_walkers : K.lookup fHall_walkers = some ⟨ocHall_walkers, odHall_walkers, .func (PySem.W.fnOf "walkers" "Hall.walkers" (C8.fnArgs s_Hall_walkers) (C8.fnBody s_Hall_walkers) (C8.fnScope s_Hall_walkers) .none kVHall_walkers docHall_walkers pmHall_walkers anHall_walkers cdHall_walkers ctHall_walkers), slHall_walkers⟩)
    (vHall_walkers : PySem.W.codeIn K cdHall_walkers "Hall.walkers" = true)
    (pHall_walkers : PySem.W.keepIn K (.ref fHall_walkers) = true)
    (ais_name : PySem.W.nsIn K mainGlobals "is_name" = some (some (.ref fis_name)))
    (lis_name : K.lookup fis_name = some ⟨ocis_name, odis_name, .func (PySem.W.fnOf "is_name" "is_name" (C8.fnArgs s_is_name) (C8.fnBody s_is_name) (C8.fnScope s_is_name) .none kVis_name docis_name pmis_name anis_name cdis_name ctis_name), slis_name⟩)
    (vis_name : PySem.W.codeIn K cdis_name "is_name" = true)
    (pis_name : PySem.W.keepIn K (.ref fis_name) = true)
    (ais_whole : PySem.W.nsIn K mainGlobals "is_whole" = some (some (.ref fis_whole)))
    (lis_whole : K.lookup fis_whole = some ⟨ocis_whole, odis_whole, .func (PySem.W.fnOf "is_whole" "is_whole" (C8.fnArgs s_is_whole) (C8.fnBody s_is_whole) (C8.fnScope s_is_whole) .none kVis_whole docis_whole pmis_whole anis_whole cdis_whole ctis_whole), slis_whole⟩)
    (vis_whole : PySem.W.codeIn K cdis_whole "is_whole" = true)
    (pis_whole : PySem.W.keepIn K (.ref fis_whole) = true)
    (aneed_goal : PySem.W.nsIn K mainGlobals "need_goal" = some (some (.ref fneed_goal)))
    (lneed_goal : K.lookup fneed_goal = some ⟨ocneed_goal, odneed_goal, .func (PySem.W.fnOf "need_goal" "need_goal" (C8.fnArgs s_need_goal) (C8.fnBody s_need_goal) (C8.fnScope s_need_goal) .none kVneed_goal docneed_goal pmneed_goal anneed_goal cdneed_goal ctneed_goal), slneed_goal⟩)
    (vneed_goal : PySem.W.codeIn K cdneed_goal "need_goal" = true)
    (pneed_goal : PySem.W.keepIn K (.ref fneed_goal) = true)
    (ais_wish : PySem.W.nsIn K mainGlobals "is_wish" = some (some (.ref fis_wish)))
    (lis_wish : K.lookup fis_wish = some ⟨ocis_wish, odis_wish, .func (PySem.W.fnOf "is_wish" "is_wish" (C8.fnArgs s_is_wish) (C8.fnBody s_is_wish) (C8.fnScope s_is_wish) .none kVis_wish docis_wish pmis_wish anis_wish cdis_wish ctis_wish), slis_wish⟩)
    (vis_wish : PySem.W.codeIn K cdis_wish "is_wish" = true)
    (pis_wish : PySem.W.keepIn K (.ref fis_wish) = true)
    (ais_wish_of_two : PySem.W.nsIn K mainGlobals "is_wish_of_two" = some (some (.ref fis_wish_of_two)))
    (lis_wish_of_two : K.lookup fis_wish_of_two = some ⟨ocis_wish_of_two, odis_wish_of_two, .func (PySem.W.fnOf "is_wish_of_two" "is_wish_of_two" (C8.fnArgs s_is_wish_of_two) (C8.fnBody s_is_wish_of_two) (C8.fnScope s_is_wish_of_two) .none kVis_wish_of_two docis_wish_of_two pmis_wish_of_two anis_wish_of_two cdis_wish_of_two ctis_wish_of_two), slis_wish_of_two⟩)
    (vis_wish_of_two : PySem.W.codeIn K cdis_wish_of_two "is_wish_of_two" = true)
    (pis_wish_of_two : PySem.W.keepIn K (.ref fis_wish_of_two) = true)
    (akept_door : PySem.W.nsIn K mainGlobals "kept_door" = some (some (.ref fkept_door)))
    (lkept_door : K.lookup fkept_door = some ⟨ockept_door, odkept_door, .func (PySem.W.fnOf "kept_door" "kept_door" (C8.fnArgs s_kept_door) (C8.fnBody s_kept_door) (C8.fnScope s_kept_door) .none kVkept_door dockept_door pmkept_door ankept_door (.ref cckept_door) ctkept_door), slkept_door⟩)
    (vkept_door : PySem.W.codeIn K (.ref cckept_door) "kept_door" = true)
    (pkept_door : PySem.W.keepIn K (.ref fkept_door) = true)
    (aleads_of : PySem.W.nsIn K mainGlobals "leads_of" = some (some (.ref fleads_of)))
    (lleads_of : K.lookup fleads_of = some ⟨ocleads_of, odleads_of, .func (PySem.W.fnOf "leads_of" "leads_of" (C8.fnArgs s_leads_of) (C8.fnBody s_leads_of) (C8.fnScope s_leads_of) .none kVleads_of docleads_of pmleads_of anleads_of cdleads_of ctleads_of), slleads_of⟩)
    (vleads_of : PySem.W.codeIn K cdleads_of "leads_of" = true)
    (pleads_of : PySem.W.keepIn K (.ref fleads_of) = true)
    (anamed : PySem.W.nsIn K mainGlobals "named" = some (some (.ref fnamed)))
    (lnamed : K.lookup fnamed = some ⟨ocnamed, odnamed, .func (PySem.W.fnOf "named" "named" (C8.fnArgs s_named) (C8.fnBody s_named) (C8.fnScope s_named) .none kVnamed docnamed pmnamed annamed cdnamed ctnamed), slnamed⟩)
    (vnamed : PySem.W.codeIn K cdnamed "named" = true)
    (pnamed : PySem.W.keepIn K (.ref fnamed) = true)
    (a_law_pen : PySem.W.nsIn K mainGlobals "_law_pen" = some (some (.ref f_law_pen)))
    (l_law_pen : K.lookup f_law_pen = some ⟨oc_law_pen, od_law_pen, .func (PySem.W.fnOf "_law_pen" "_law_pen" (C8.fnArgs s__law_pen) (C8.fnBody s__law_pen) (C8.fnScope s__law_pen) .none kV_law_pen doc_law_pen pm_law_pen an_law_pen cd_law_pen ct_law_pen), sl_law_pen⟩)
    (v_law_pen : PySem.W.codeIn K cd_law_pen "_law_pen" = true)
    (p_law_pen : PySem.W.keepIn K (.ref f_law_pen) = true)
    (a_law_draw : PySem.W.nsIn K mainGlobals "_law_draw" = some (some (.ref f_law_draw)))
    (l_law_draw : K.lookup f_law_draw = some ⟨oc_law_draw, od_law_draw, .func (PySem.W.fnOf "_law_draw" "_law_draw" (C8.fnArgs s__law_draw) (C8.fnBody s__law_draw) (C8.fnScope s__law_draw) .none kV_law_draw doc_law_draw pm_law_draw an_law_draw cd_law_draw ct_law_draw), sl_law_draw⟩)
    (v_law_draw : PySem.W.codeIn K cd_law_draw "_law_draw" = true)
    (p_law_draw : PySem.W.keepIn K (.ref f_law_draw) = true)
    (a_law_pick : PySem.W.nsIn K mainGlobals "_law_pick" = some (some (.ref f_law_pick)))
    (l_law_pick : K.lookup f_law_pick = some ⟨oc_law_pick, od_law_pick, .func (PySem.W.fnOf "_law_pick" "_law_pick" (C8.fnArgs s__law_pick) (C8.fnBody s__law_pick) (C8.fnScope s__law_pick) .none kV_law_pick doc_law_pick pm_law_pick an_law_pick cd_law_pick ct_law_pick), sl_law_pick⟩)
    (v_law_pick : PySem.W.codeIn K cd_law_pick "_law_pick" = true)
    (p_law_pick : PySem.W.keepIn K (.ref f_law_pick) = true)
    (a_law_names : PySem.W.nsIn K mainGlobals "_law_names" = some (some (.ref f_law_names)))
    (l_law_names : K.lookup f_law_names = some ⟨oc_law_names, od_law_names, .func (PySem.W.fnOf "_law_names" "_law_names" (C8.fnArgs s__law_names) (C8.fnBody s__law_names) (C8.fnScope s__law_names) .none kV_law_names doc_law_names pm_law_names an_law_names cd_law_names ct_law_names), sl_law_names⟩)
    (v_law_names : PySem.W.codeIn K cd_law_names "_law_names" = true)
    (p_law_names : PySem.W.keepIn K (.ref f_law_names) = true)
    (a_law_heft : PySem.W.nsIn K mainGlobals "_law_heft" = some (some (.ref f_law_heft)))
    (l_law_heft : K.lookup f_law_heft = some ⟨oc_law_heft, od_law_heft, .func (PySem.W.fnOf "_law_heft" "_law_heft" (C8.fnArgs s__law_heft) (C8.fnBody s__law_heft) (C8.fnScope s__law_heft) .none kV_law_heft doc_law_heft pm_law_heft an_law_heft cd_law_heft ct_law_heft), sl_law_heft⟩)
    (v_law_heft : PySem.W.codeIn K cd_law_heft "_law_heft" = true)
    (p_law_heft : PySem.W.keepIn K (.ref f_law_heft) = true)
    (a_law_rows : PySem.W.nsIn K mainGlobals "_law_rows" = some (some (.ref f_law_rows)))
    (l_law_rows : K.lookup f_law_rows = some ⟨oc_law_rows, od_law_rows, .func (PySem.W.fnOf "_law_rows" "_law_rows" (C8.fnArgs s__law_rows) (C8.fnBody s__law_rows) (C8.fnScope s__law_rows) .none kV_law_rows doc_law_rows pm_law_rows an_law_rows cd_law_rows ct_law_rows), sl_law_rows⟩)
    (v_law_rows : PySem.W.codeIn K cd_law_rows "_law_rows" = true)
    (p_law_rows : PySem.W.keepIn K (.ref f_law_rows) = true)
    (a_law_hall : PySem.W.nsIn K mainGlobals "_law_hall" = some (some (.ref f_law_hall)))
    (l_law_hall : K.lookup f_law_hall = some ⟨oc_law_hall, od_law_hall, .func (PySem.W.fnOf "_law_hall" "_law_hall" (C8.fnArgs s__law_hall) (C8.fnBody s__law_hall) (C8.fnScope s__law_hall) .none kV_law_hall doc_law_hall pm_law_hall an_law_hall cd_law_hall ct_law_hall), sl_law_hall⟩)
    (v_law_hall : PySem.W.codeIn K cd_law_hall "_law_hall" = true)
    (p_law_hall : PySem.W.keepIn K (.ref f_law_hall) = true)
    (a_law_hall_of : PySem.W.nsIn K mainGlobals "_law_hall_of" = some (some (.ref f_law_hall_of)))
    (l_law_hall_of : K.lookup f_law_hall_of = some ⟨oc_law_hall_of, od_law_hall_of, .func (PySem.W.fnOf "_law_hall_of" "_law_hall_of" (C8.fnArgs s__law_hall_of) (C8.fnBody s__law_hall_of) (C8.fnScope s__law_hall_of) .none kV_law_hall_of doc_law_hall_of pm_law_hall_of an_law_hall_of cd_law_hall_of ct_law_hall_of), sl_law_hall_of⟩)
    (v_law_hall_of : PySem.W.codeIn K cd_law_hall_of "_law_hall_of" = true)
    (p_law_hall_of : PySem.W.keepIn K (.ref f_law_hall_of) = true)
    (a_law_made : PySem.W.nsIn K mainGlobals "_law_made" = some (some (.ref f_law_made)))
    (l_law_made : K.lookup f_law_made = some ⟨oc_law_made, od_law_made, .func (PySem.W.fnOf "_law_made" "_law_made" (C8.fnArgs s__law_made) (C8.fnBody s__law_made) (C8.fnScope s__law_made) .none kV_law_made doc_law_made pm_law_made an_law_made cd_law_made ct_law_made), sl_law_made⟩)
    (v_law_made : PySem.W.codeIn K cd_law_made "_law_made" = true)
    (p_law_made : PySem.W.keepIn K (.ref f_law_made) = true)
    (a_law_wish : PySem.W.nsIn K mainGlobals "_law_wish" = some (some (.ref f_law_wish)))
    (l_law_wish : K.lookup f_law_wish = some ⟨oc_law_wish, od_law_wish, .func (PySem.W.fnOf "_law_wish" "_law_wish" (C8.fnArgs s__law_wish) (C8.fnBody s__law_wish) (C8.fnScope s__law_wish) .none kV_law_wish doc_law_wish pm_law_wish an_law_wish cd_law_wish ct_law_wish), sl_law_wish⟩)
    (v_law_wish : PySem.W.codeIn K cd_law_wish "_law_wish" = true)
    (p_law_wish : PySem.W.keepIn K (.ref f_law_wish) = true)
    (a_law_is_whole : PySem.W.nsIn K mainGlobals "_law_is_whole" = some (some (.ref f_law_is_whole)))
    (l_law_is_whole : K.lookup f_law_is_whole = some ⟨oc_law_is_whole, od_law_is_whole, .func (PySem.W.fnOf "_law_is_whole" "_law_is_whole" (C8.fnArgs s__law_is_whole) (C8.fnBody s__law_is_whole) (C8.fnScope s__law_is_whole) .none kV_law_is_whole doc_law_is_whole pm_law_is_whole an_law_is_whole cd_law_is_whole ct_law_is_whole), sl_law_is_whole⟩)
    (v_law_is_whole : PySem.W.codeIn K cd_law_is_whole "_law_is_whole" = true)
    (p_law_is_whole : PySem.W.keepIn K (.ref f_law_is_whole) = true)
    (a_law_all_names : PySem.W.nsIn K mainGlobals "_law_all_names" = some (some (.ref f_law_all_names)))
    (l_law_all_names : K.lookup f_law_all_names = some ⟨oc_law_all_names, od_law_all_names, .func (PySem.W.fnOf "_law_all_names" "_law_all_names" (C8.fnArgs s__law_all_names) (C8.fnBody s__law_all_names) (C8.fnScope s__law_all_names) .none kV_law_all_names doc_law_all_names pm_law_all_names an_law_all_names cd_law_all_names ct_law_all_names), sl_law_all_names⟩)
    (v_law_all_names : PySem.W.codeIn K cd_law_all_names "_law_all_names" = true)
    (p_law_all_names : PySem.W.keepIn K (.ref f_law_all_names) = true)
    (a_law_is_wish : PySem.W.nsIn K mainGlobals "_law_is_wish" = some (some (.ref f_law_is_wish)))
    (l_law_is_wish : K.lookup f_law_is_wish = some ⟨oc_law_is_wish, od_law_is_wish, .func (PySem.W.fnOf "_law_is_wish" "_law_is_wish" (C8.fnArgs s__law_is_wish) (C8.fnBody s__law_is_wish) (C8.fnScope s__law_is_wish) .none kV_law_is_wish doc_law_is_wish pm_law_is_wish an_law_is_wish cd_law_is_wish ct_law_is_wish), sl_law_is_wish⟩)
    (v_law_is_wish : PySem.W.codeIn K cd_law_is_wish "_law_is_wish" = true)
    (p_law_is_wish : PySem.W.keepIn K (.ref f_law_is_wish) = true)
    (a_law_due : PySem.W.nsIn K mainGlobals "_law_due" = some (some (.ref f_law_due)))
    (l_law_due : K.lookup f_law_due = some ⟨oc_law_due, od_law_due, .func (PySem.W.fnOf "_law_due" "_law_due" (C8.fnArgs s__law_due) (C8.fnBody s__law_due) (C8.fnScope s__law_due) .none kV_law_due doc_law_due pm_law_due an_law_due cd_law_due ct_law_due), sl_law_due⟩)
    (v_law_due : PySem.W.codeIn K cd_law_due "_law_due" = true)
    (p_law_due : PySem.W.keepIn K (.ref f_law_due) = true)
    (a_law_bent_wish : PySem.W.nsIn K mainGlobals "_law_bent_wish" = some (some (.ref f_law_bent_wish)))
    (l_law_bent_wish : K.lookup f_law_bent_wish = some ⟨oc_law_bent_wish, od_law_bent_wish, .func (PySem.W.fnOf "_law_bent_wish" "_law_bent_wish" (C8.fnArgs s__law_bent_wish) (C8.fnBody s__law_bent_wish) (C8.fnScope s__law_bent_wish) .none kV_law_bent_wish doc_law_bent_wish pm_law_bent_wish an_law_bent_wish cd_law_bent_wish ct_law_bent_wish), sl_law_bent_wish⟩)
    (v_law_bent_wish : PySem.W.codeIn K cd_law_bent_wish "_law_bent_wish" = true)
    (p_law_bent_wish : PySem.W.keepIn K (.ref f_law_bent_wish) = true)
    (a_law_bent : PySem.W.nsIn K mainGlobals "_law_bent" = some (some (.ref f_law_bent)))
    (l_law_bent : K.lookup f_law_bent = some ⟨oc_law_bent, od_law_bent, .func (PySem.W.fnOf "_law_bent" "_law_bent" (C8.fnArgs s__law_bent) (C8.fnBody s__law_bent) (C8.fnScope s__law_bent) .none kV_law_bent doc_law_bent pm_law_bent an_law_bent cd_law_bent ct_law_bent), sl_law_bent⟩)
    (v_law_bent : PySem.W.codeIn K cd_law_bent "_law_bent" = true)
    (p_law_bent : PySem.W.keepIn K (.ref f_law_bent) = true)
    (alaw : PySem.W.nsIn K mainGlobals "law" = some (some (.ref flaw)))
    (llaw : K.lookup flaw = some ⟨oclaw, odlaw, .func (PySem.W.fnOf "law" "law" (C8.fnArgs s_law) (C8.fnBody s_law) (C8.fnScope s_law) .none kVlaw doclaw pmlaw anlaw cdlaw ctlaw), sllaw⟩)
    (vlaw : PySem.W.codeIn K cdlaw "law" = true)
    (plaw : PySem.W.keepIn K (.ref flaw) = true)
    (aLETTERS : PySem.W.nsIn K mainGlobals "LETTERS" = some (some (.str "abcdefghijklmnopqrstuvwxyz" tkLETTERS)))
    (aLONGEST_NAME : PySem.W.nsIn K mainGlobals "LONGEST_NAME" = some (some (.int 8 tkLONGEST_NAME)))
    (aMOST_HEFT : PySem.W.nsIn K mainGlobals "MOST_HEFT" = some (some (.int 9999999 tkMOST_HEFT)))
    (aMOST_WISHES : PySem.W.nsIn K mainGlobals "MOST_WISHES" = some (some (.int 8 tkMOST_WISHES)))
    (zall : PySem.W.nsIn K mainGlobals "all" = some none)
    (zbool : PySem.W.nsIn K mainGlobals "bool" = some none)
    (zenumerate : PySem.W.nsIn K mainGlobals "enumerate" = some none)
    (zValueError : PySem.W.nsIn K mainGlobals "ValueError" = some none)
    (chkept_door : PySem.W.codeHdIn K cckept_door Pkept_door = true)
    (ltkept_door : K.lookup Pkept_door = none)
    (chHall___init__ : PySem.W.codeHdIn K ccHall___init__ PHall___init__ = true)
    (ltHall___init__ : K.lookup PHall___init__ = none)
    (tnd : [Pkept_door, PHall___init__].Nodup)
    (zlen : PySem.W.nsIn K mainGlobals "len" = some none)
    (zabs : PySem.W.nsIn K mainGlobals "abs" = some none)
    (zlist : PySem.W.nsIn K mainGlobals "list" = some none)
    (zrange : PySem.W.nsIn K mainGlobals "range" = some none)
    (zmin : PySem.W.nsIn K mainGlobals "min" = some none)
    (zmax : PySem.W.nsIn K mainGlobals "max" = some none)
    (zsum : PySem.W.nsIn K mainGlobals "sum" = some none)
    (zsorted : PySem.W.nsIn K mainGlobals "sorted" = some none)
    (ztuple : PySem.W.nsIn K mainGlobals "tuple" = some none)
    (zint : PySem.W.nsIn K mainGlobals "int" = some none)
    (zstr : PySem.W.nsIn K mainGlobals "str" = some none)
    (zisinstance : PySem.W.nsIn K mainGlobals "isinstance" = some none)
    (zrepr : PySem.W.nsIn K mainGlobals "repr" = some none)
    (zdict : PySem.W.nsIn K mainGlobals "dict" = some none)
    (zzip : PySem.W.nsIn K mainGlobals "zip" = some none)
    (zKeyError : PySem.W.nsIn K mainGlobals "KeyError" = some none) :
    LawG l w K 8 63 "script" mg fa h := by
  have e := hfa.symm.trans (PySem.W.mg_of X G alaw)
  cases e
  have xiNoGoal := xis_mk gNoGoal hNoGoal eNoGoal dNoGoal cNoGoal sp_ tk_ mNoGoal
  have xcNoGoal : Xc K CNoGoal "ValueError" "ValueError.__new__" "ValueError.__init__" PySem.WX.tlV PySem.WX.tlV := ⟨PySem.WX.tail_V, ⟨_, _, _, _, _, _, _, _, _, _, _, _, _, _, xNoGoal⟩, sNoGoal, gNoGoal, hNoGoal, eNoGoal, tNoGoal, kNoGoal⟩
  have FxNoGoal : C8.Fun K "__init__" "NoGoal.__init__" s_NoGoal___init__ fxNoGoal (PySem.W.fnOf "__init__" "NoGoal.__init__" (C8.fnArgs s_NoGoal___init__) (C8.fnBody s_NoGoal___init__) (C8.fnScope s_NoGoal___init__) .none kVxNoGoal docxNoGoal pmxNoGoal anxNoGoal cdxNoGoal ctxNoGoal) := ⟨⟨_, _, _, _, _, _, _, _, _, _, rfl, lxNoGoal, vxNoGoal⟩⟩
  have xiNoName := xis_mk gNoName hNoName eNoName dNoName cNoName sp_ tk_ mNoName
  have xcNoName : Xc K CNoName "LookupError" "LookupError.__new__" "LookupError.__init__" PySem.WX.tlL PySem.WX.tlK := ⟨PySem.WX.tail_K, ⟨_, _, _, _, _, _, _, _, _, _, _, _, _, _, xNoName⟩, sNoName, gNoName, hNoName, eNoName, tNoName, kNoName⟩
  have FxNoName : C8.Fun K "__init__" "NoName.__init__" s_NoName___init__ fxNoName (PySem.W.fnOf "__init__" "NoName.__init__" (C8.fnArgs s_NoName___init__) (C8.fnBody s_NoName___init__) (C8.fnScope s_NoName___init__) .none kVxNoName docxNoName pmxNoName anxNoName cdxNoName ctxNoName) := ⟨⟨_, _, _, _, _, _, _, _, _, _, rfl, lxNoName, vxNoName⟩⟩
  have clHall : Cls K CHall := ⟨pgHall, hdHall, poHall, saHall⟩
  have FHall___init__ : C8.Fun K "__init__" "Hall.__init__" s_Hall___init__ fHall___init__ (PySem.W.fnOf "__init__" "Hall.__init__" (C8.fnArgs s_Hall___init__) (C8.fnBody s_Hall___init__) (C8.fnScope s_Hall___init__) .none kVHall___init__ docHall___init__ pmHall___init__ anHall___init__ (.ref ccHall___init__) ctHall___init__) := ⟨⟨_, _, _, _, _, _, _, _, _, _, rfl, lHall___init__, vHall___init__⟩⟩
  have bHall___init__ : Binds K (PySem.W.fnOf "__init__" "Hall.__init__" (C8.fnArgs s_Hall___init__) (C8.fnBody s_Hall___init__) (C8.fnScope s_Hall___init__) .none kVHall___init__ docHall___init__ pmHall___init__ anHall___init__ (.ref ccHall___init__) ctHall___init__) ["self", "rooms", "doors", "stones", "walkers"] [] := .all fun us hl => match us, hl with | [_, _, _, _, _], _ => rfl
  have meHall___init__ : Mk K CHall fHall___init__ := ⟨mkHall, aHall___init__, iHall___init__, kcHall⟩
  have FHall_rooms : C8.Fun K "rooms" "Hall.rooms" s_Hall_rooms fHall_rooms (PySem.W.fnOf "rooms" "Hall.rooms" (C8.fnArgs s_Hall_rooms) (C8.fnBody s_Hall_rooms) (C8.fnScope s_Hall_rooms) .none kVHall_rooms docHall_rooms pmHall_rooms anHall_rooms cdHall_rooms ctHall_rooms) := ⟨⟨_, _, _, _, _, _, _, _, _, _, rfl, lHall_rooms, vHall_rooms⟩⟩
  have bHall_rooms : Binds K (PySem.W.fnOf "rooms" "Hall.rooms" (C8.fnArgs s_Hall_rooms) (C8.fnBody s_Hall_rooms) (C8.fnScope s_Hall_rooms) .none kVHall_rooms docHall_rooms pmHall_rooms anHall_rooms cdHall_rooms ctHall_rooms) ["self"] [] := .all fun us hl => match us, hl with | [_], _ => rfl
  have meHall_rooms : Meth K CHall "rooms" fHall_rooms := ⟨aHall_rooms, iHall_rooms, pHall_rooms⟩
  have FHall_stones : C8.Fun K "stones" "Hall.stones" s_Hall_stones fHall_stones (PySem.W.fnOf "stones" "Hall.stones" (C8.fnArgs s_Hall_stones) (C8.fnBody s_Hall_stones) (C8.fnScope s_Hall_stones) .none kVHall_stones docHall_stones pmHall_stones anHall_stones cdHall_stones ctHall_stones) := ⟨⟨_, _, _, _, _, _, _, _, _, _, rfl, lHall_stones, vHall_stones⟩⟩
  have bHall_stones : Binds K (PySem.W.fnOf "stones" "Hall.stones" (C8.fnArgs s_Hall_stones) (C8.fnBody s_Hall_stones) (C8.fnScope s_Hall_stones) .none kVHall_stones docHall_stones pmHall_stones anHall_stones cdHall_stones ctHall_stones) ["self"] [] := .all fun us hl => match us, hl with | [_], _ => rfl
  have meHall_stones : Meth K CHall "stones" fHall_stones := ⟨aHall_stones, iHall_stones, pHall_stones⟩
  have FHall_walkers : C8.Fun K "walkers" "Hall.walkers" s_Hall_walkers fHall_walkers (PySem.W.fnOf "walkers" "Hall.walkers" (C8.fnArgs s_Hall_walkers) (C8.fnBody s_Hall_walkers) (C8.fnScope s_Hall_walkers) .none kVHall_walkers docHall_walkers pmHall_walkers anHall_walkers cdHall_walkers ctHall_walkers) := ⟨⟨_, _, _, _, _, _, _, _, _, _, rfl, lHall_walkers, vHall_walkers⟩⟩
  have bHall_walkers : Binds K (PySem.W.fnOf "walkers" "Hall.walkers" (C8.fnArgs s_Hall_walkers) (C8.fnBody s_Hall_walkers) (C8.fnScope s_Hall_walkers) .none kVHall_walkers docHall_walkers pmHall_walkers anHall_walkers cdHall_walkers ctHall_walkers) ["self"] [] := .all fun us hl => match us, hl with | [_], _ => rfl
  have meHall_walkers : Meth K CHall "walkers" fHall_walkers := ⟨aHall_walkers, iHall_walkers, pHall_walkers⟩
  have Dis_name : C8.Def K mg "is_name" s_is_name fis_name (PySem.W.fnOf "is_name" "is_name" (C8.fnArgs s_is_name) (C8.fnBody s_is_name) (C8.fnScope s_is_name) .none kVis_name docis_name pmis_name anis_name cdis_name ctis_name) := ⟨⟨⟨_, _, _, _, _, _, _, _, _, _, rfl, lis_name, vis_name⟩⟩, PySem.W.mg_of X G ais_name, pis_name⟩
  have bis_name : Binds K (PySem.W.fnOf "is_name" "is_name" (C8.fnArgs s_is_name) (C8.fnBody s_is_name) (C8.fnScope s_is_name) .none kVis_name docis_name pmis_name anis_name cdis_name ctis_name) ["thing"] [] := .all fun us hl => match us, hl with | [_], _ => rfl
  have Dis_whole : C8.Def K mg "is_whole" s_is_whole fis_whole (PySem.W.fnOf "is_whole" "is_whole" (C8.fnArgs s_is_whole) (C8.fnBody s_is_whole) (C8.fnScope s_is_whole) .none kVis_whole docis_whole pmis_whole anis_whole cdis_whole ctis_whole) := ⟨⟨⟨_, _, _, _, _, _, _, _, _, _, rfl, lis_whole, vis_whole⟩⟩, PySem.W.mg_of X G ais_whole, pis_whole⟩
  have bis_whole : Binds K (PySem.W.fnOf "is_whole" "is_whole" (C8.fnArgs s_is_whole) (C8.fnBody s_is_whole) (C8.fnScope s_is_whole) .none kVis_whole docis_whole pmis_whole anis_whole cdis_whole ctis_whole) ["thing"] [] := .all fun us hl => match us, hl with | [_], _ => rfl
  have Dneed_goal : C8.Def K mg "need_goal" s_need_goal fneed_goal (PySem.W.fnOf "need_goal" "need_goal" (C8.fnArgs s_need_goal) (C8.fnBody s_need_goal) (C8.fnScope s_need_goal) .none kVneed_goal docneed_goal pmneed_goal anneed_goal cdneed_goal ctneed_goal) := ⟨⟨⟨_, _, _, _, _, _, _, _, _, _, rfl, lneed_goal, vneed_goal⟩⟩, PySem.W.mg_of X G aneed_goal, pneed_goal⟩
  have bneed_goal : Binds K (PySem.W.fnOf "need_goal" "need_goal" (C8.fnArgs s_need_goal) (C8.fnBody s_need_goal) (C8.fnScope s_need_goal) .none kVneed_goal docneed_goal pmneed_goal anneed_goal cdneed_goal ctneed_goal) ["hall", "thing"] [] := .all fun us hl => match us, hl with | [_, _], _ => rfl
  have Dis_wish : C8.Def K mg "is_wish" s_is_wish fis_wish (PySem.W.fnOf "is_wish" "is_wish" (C8.fnArgs s_is_wish) (C8.fnBody s_is_wish) (C8.fnScope s_is_wish) .none kVis_wish docis_wish pmis_wish anis_wish cdis_wish ctis_wish) := ⟨⟨⟨_, _, _, _, _, _, _, _, _, _, rfl, lis_wish, vis_wish⟩⟩, PySem.W.mg_of X G ais_wish, pis_wish⟩
  have bis_wish : Binds K (PySem.W.fnOf "is_wish" "is_wish" (C8.fnArgs s_is_wish) (C8.fnBody s_is_wish) (C8.fnScope s_is_wish) .none kVis_wish docis_wish pmis_wish anis_wish cdis_wish ctis_wish) ["hall", "thing"] [] := .all fun us hl => match us, hl with | [_, _], _ => rfl
  have Dis_wish_of_two : C8.Def K mg "is_wish_of_two" s_is_wish_of_two fis_wish_of_two (PySem.W.fnOf "is_wish_of_two" "is_wish_of_two" (C8.fnArgs s_is_wish_of_two) (C8.fnBody s_is_wish_of_two) (C8.fnScope s_is_wish_of_two) .none kVis_wish_of_two docis_wish_of_two pmis_wish_of_two anis_wish_of_two cdis_wish_of_two ctis_wish_of_two) := ⟨⟨⟨_, _, _, _, _, _, _, _, _, _, rfl, lis_wish_of_two, vis_wish_of_two⟩⟩, PySem.W.mg_of X G ais_wish_of_two, pis_wish_of_two⟩
  have bis_wish_of_two : Binds K (PySem.W.fnOf "is_wish_of_two" "is_wish_of_two" (C8.fnArgs s_is_wish_of_two) (C8.fnBody s_is_wish_of_two) (C8.fnScope s_is_wish_of_two) .none kVis_wish_of_two docis_wish_of_two pmis_wish_of_two anis_wish_of_two cdis_wish_of_two ctis_wish_of_two) ["hall", "wish"] [] := .all fun us hl => match us, hl with | [_, _], _ => rfl
  have Dkept_door : C8.Def K mg "kept_door" s_kept_door fkept_door (PySem.W.fnOf "kept_door" "kept_door" (C8.fnArgs s_kept_door) (C8.fnBody s_kept_door) (C8.fnScope s_kept_door) .none kVkept_door dockept_door pmkept_door ankept_door (.ref cckept_door) ctkept_door) := ⟨⟨⟨_, _, _, _, _, _, _, _, _, _, rfl, lkept_door, vkept_door⟩⟩, PySem.W.mg_of X G akept_door, pkept_door⟩
  have bkept_door : Binds K (PySem.W.fnOf "kept_door" "kept_door" (C8.fnArgs s_kept_door) (C8.fnBody s_kept_door) (C8.fnScope s_kept_door) .none kVkept_door dockept_door pmkept_door ankept_door (.ref cckept_door) ctkept_door) ["one", "other", "way", "rows"] [] := .all fun us hl => match us, hl with | [_, _, _, _], _ => rfl
  have Dleads_of : C8.Def K mg "leads_of" s_leads_of fleads_of (PySem.W.fnOf "leads_of" "leads_of" (C8.fnArgs s_leads_of) (C8.fnBody s_leads_of) (C8.fnScope s_leads_of) .none kVleads_of docleads_of pmleads_of anleads_of cdleads_of ctleads_of) := ⟨⟨⟨_, _, _, _, _, _, _, _, _, _, rfl, lleads_of, vleads_of⟩⟩, PySem.W.mg_of X G aleads_of, pleads_of⟩
  have bleads_of : Binds K (PySem.W.fnOf "leads_of" "leads_of" (C8.fnArgs s_leads_of) (C8.fnBody s_leads_of) (C8.fnScope s_leads_of) .none kVleads_of docleads_of pmleads_of anleads_of cdleads_of ctleads_of) ["rooms", "doors"] [] := .all fun us hl => match us, hl with | [_, _], _ => rfl
  have Dnamed : C8.Def K mg "named" s_named fnamed (PySem.W.fnOf "named" "named" (C8.fnArgs s_named) (C8.fnBody s_named) (C8.fnScope s_named) .none kVnamed docnamed pmnamed annamed cdnamed ctnamed) := ⟨⟨⟨_, _, _, _, _, _, _, _, _, _, rfl, lnamed, vnamed⟩⟩, PySem.W.mg_of X G anamed, pnamed⟩
  have bnamed : Binds K (PySem.W.fnOf "named" "named" (C8.fnArgs s_named) (C8.fnBody s_named) (C8.fnScope s_named) .none kVnamed docnamed pmnamed annamed cdnamed ctnamed) ["table", "name"] [] := .all fun us hl => match us, hl with | [_, _], _ => rfl
  have D_law_pen : C8.Def K mg "_law_pen" s__law_pen f_law_pen (PySem.W.fnOf "_law_pen" "_law_pen" (C8.fnArgs s__law_pen) (C8.fnBody s__law_pen) (C8.fnScope s__law_pen) .none kV_law_pen doc_law_pen pm_law_pen an_law_pen cd_law_pen ct_law_pen) := ⟨⟨⟨_, _, _, _, _, _, _, _, _, _, rfl, l_law_pen, v_law_pen⟩⟩, PySem.W.mg_of X G a_law_pen, p_law_pen⟩
  have b_law_pen : Binds K (PySem.W.fnOf "_law_pen" "_law_pen" (C8.fnArgs s__law_pen) (C8.fnBody s__law_pen) (C8.fnScope s__law_pen) .none kV_law_pen doc_law_pen pm_law_pen an_law_pen cd_law_pen ct_law_pen) ["script"] [] := .all fun us hl => match us, hl with | [_], _ => rfl
  have D_law_draw : C8.Def K mg "_law_draw" s__law_draw f_law_draw (PySem.W.fnOf "_law_draw" "_law_draw" (C8.fnArgs s__law_draw) (C8.fnBody s__law_draw) (C8.fnScope s__law_draw) .none kV_law_draw doc_law_draw pm_law_draw an_law_draw cd_law_draw ct_law_draw) := ⟨⟨⟨_, _, _, _, _, _, _, _, _, _, rfl, l_law_draw, v_law_draw⟩⟩, PySem.W.mg_of X G a_law_draw, p_law_draw⟩
  have b_law_draw : Binds K (PySem.W.fnOf "_law_draw" "_law_draw" (C8.fnArgs s__law_draw) (C8.fnBody s__law_draw) (C8.fnScope s__law_draw) .none kV_law_draw doc_law_draw pm_law_draw an_law_draw cd_law_draw ct_law_draw) ["pen", "many"] [] := .all fun us hl => match us, hl with | [_, _], _ => rfl
  have D_law_pick : C8.Def K mg "_law_pick" s__law_pick f_law_pick (PySem.W.fnOf "_law_pick" "_law_pick" (C8.fnArgs s__law_pick) (C8.fnBody s__law_pick) (C8.fnScope s__law_pick) .none kV_law_pick doc_law_pick pm_law_pick an_law_pick cd_law_pick ct_law_pick) := ⟨⟨⟨_, _, _, _, _, _, _, _, _, _, rfl, l_law_pick, v_law_pick⟩⟩, PySem.W.mg_of X G a_law_pick, p_law_pick⟩
  have b_law_pick : Binds K (PySem.W.fnOf "_law_pick" "_law_pick" (C8.fnArgs s__law_pick) (C8.fnBody s__law_pick) (C8.fnScope s__law_pick) .none kV_law_pick doc_law_pick pm_law_pick an_law_pick cd_law_pick ct_law_pick) ["pen", "some"] [] := .all fun us hl => match us, hl with | [_, _], _ => rfl
  have D_law_names : C8.Def K mg "_law_names" s__law_names f_law_names (PySem.W.fnOf "_law_names" "_law_names" (C8.fnArgs s__law_names) (C8.fnBody s__law_names) (C8.fnScope s__law_names) .none kV_law_names doc_law_names pm_law_names an_law_names cd_law_names ct_law_names) := ⟨⟨⟨_, _, _, _, _, _, _, _, _, _, rfl, l_law_names, v_law_names⟩⟩, PySem.W.mg_of X G a_law_names, p_law_names⟩
  have b_law_names : Binds K (PySem.W.fnOf "_law_names" "_law_names" (C8.fnArgs s__law_names) (C8.fnBody s__law_names) (C8.fnScope s__law_names) .none kV_law_names doc_law_names pm_law_names an_law_names cd_law_names ct_law_names) ["pen", "many"] [] := .all fun us hl => match us, hl with | [_, _], _ => rfl
  have D_law_heft : C8.Def K mg "_law_heft" s__law_heft f_law_heft (PySem.W.fnOf "_law_heft" "_law_heft" (C8.fnArgs s__law_heft) (C8.fnBody s__law_heft) (C8.fnScope s__law_heft) .none kV_law_heft doc_law_heft pm_law_heft an_law_heft cd_law_heft ct_law_heft) := ⟨⟨⟨_, _, _, _, _, _, _, _, _, _, rfl, l_law_heft, v_law_heft⟩⟩, PySem.W.mg_of X G a_law_heft, p_law_heft⟩
  have b_law_heft : Binds K (PySem.W.fnOf "_law_heft" "_law_heft" (C8.fnArgs s__law_heft) (C8.fnBody s__law_heft) (C8.fnScope s__law_heft) .none kV_law_heft doc_law_heft pm_law_heft an_law_heft cd_law_heft ct_law_heft) ["pen"] [] := .all fun us hl => match us, hl with | [_], _ => rfl
  have D_law_rows : C8.Def K mg "_law_rows" s__law_rows f_law_rows (PySem.W.fnOf "_law_rows" "_law_rows" (C8.fnArgs s__law_rows) (C8.fnBody s__law_rows) (C8.fnScope s__law_rows) .none kV_law_rows doc_law_rows pm_law_rows an_law_rows cd_law_rows ct_law_rows) := ⟨⟨⟨_, _, _, _, _, _, _, _, _, _, rfl, l_law_rows, v_law_rows⟩⟩, PySem.W.mg_of X G a_law_rows, p_law_rows⟩
  have b_law_rows : Binds K (PySem.W.fnOf "_law_rows" "_law_rows" (C8.fnArgs s__law_rows) (C8.fnBody s__law_rows) (C8.fnScope s__law_rows) .none kV_law_rows doc_law_rows pm_law_rows an_law_rows cd_law_rows ct_law_rows) ["pen", "rooms", "hefts"] [] := .all fun us hl => match us, hl with | [_, _, _], _ => rfl
  have D_law_hall : C8.Def K mg "_law_hall" s__law_hall f_law_hall (PySem.W.fnOf "_law_hall" "_law_hall" (C8.fnArgs s__law_hall) (C8.fnBody s__law_hall) (C8.fnScope s__law_hall) .none kV_law_hall doc_law_hall pm_law_hall an_law_hall cd_law_hall ct_law_hall) := ⟨⟨⟨_, _, _, _, _, _, _, _, _, _, rfl, l_law_hall, v_law_hall⟩⟩, PySem.W.mg_of X G a_law_hall, p_law_hall⟩
  have b_law_hall : Binds K (PySem.W.fnOf "_law_hall" "_law_hall" (C8.fnArgs s__law_hall) (C8.fnBody s__law_hall) (C8.fnScope s__law_hall) .none kV_law_hall doc_law_hall pm_law_hall an_law_hall cd_law_hall ct_law_hall) ["pen", "size"] [] := .all fun us hl => match us, hl with | [_, _], _ => rfl
  have D_law_hall_of : C8.Def K mg "_law_hall_of" s__law_hall_of f_law_hall_of (PySem.W.fnOf "_law_hall_of" "_law_hall_of" (C8.fnArgs s__law_hall_of) (C8.fnBody s__law_hall_of) (C8.fnScope s__law_hall_of) .none kV_law_hall_of doc_law_hall_of pm_law_hall_of an_law_hall_of cd_law_hall_of ct_law_hall_of) := ⟨⟨⟨_, _, _, _, _, _, _, _, _, _, rfl, l_law_hall_of, v_law_hall_of⟩⟩, PySem.W.mg_of X G a_law_hall_of, p_law_hall_of⟩
  have b_law_hall_of : Binds K (PySem.W.fnOf "_law_hall_of" "_law_hall_of" (C8.fnArgs s__law_hall_of) (C8.fnBody s__law_hall_of) (C8.fnScope s__law_hall_of) .none kV_law_hall_of doc_law_hall_of pm_law_hall_of an_law_hall_of cd_law_hall_of ct_law_hall_of) ["pen", "names", "size"] [] := .all fun us hl => match us, hl with | [_, _, _], _ => rfl
  have D_law_made : C8.Def K mg "_law_made" s__law_made f_law_made (PySem.W.fnOf "_law_made" "_law_made" (C8.fnArgs s__law_made) (C8.fnBody s__law_made) (C8.fnScope s__law_made) .none kV_law_made doc_law_made pm_law_made an_law_made cd_law_made ct_law_made) := ⟨⟨⟨_, _, _, _, _, _, _, _, _, _, rfl, l_law_made, v_law_made⟩⟩, PySem.W.mg_of X G a_law_made, p_law_made⟩
  have b_law_made : Binds K (PySem.W.fnOf "_law_made" "_law_made" (C8.fnArgs s__law_made) (C8.fnBody s__law_made) (C8.fnScope s__law_made) .none kV_law_made doc_law_made pm_law_made an_law_made cd_law_made ct_law_made) ["hall"] [] := .all fun us hl => match us, hl with | [_], _ => rfl
  have D_law_wish : C8.Def K mg "_law_wish" s__law_wish f_law_wish (PySem.W.fnOf "_law_wish" "_law_wish" (C8.fnArgs s__law_wish) (C8.fnBody s__law_wish) (C8.fnScope s__law_wish) .none kV_law_wish doc_law_wish pm_law_wish an_law_wish cd_law_wish ct_law_wish) := ⟨⟨⟨_, _, _, _, _, _, _, _, _, _, rfl, l_law_wish, v_law_wish⟩⟩, PySem.W.mg_of X G a_law_wish, p_law_wish⟩
  have b_law_wish : Binds K (PySem.W.fnOf "_law_wish" "_law_wish" (C8.fnArgs s__law_wish) (C8.fnBody s__law_wish) (C8.fnScope s__law_wish) .none kV_law_wish doc_law_wish pm_law_wish an_law_wish cd_law_wish ct_law_wish) ["pen", "hall"] [] := .all fun us hl => match us, hl with | [_, _], _ => rfl
  have D_law_is_whole : C8.Def K mg "_law_is_whole" s__law_is_whole f_law_is_whole (PySem.W.fnOf "_law_is_whole" "_law_is_whole" (C8.fnArgs s__law_is_whole) (C8.fnBody s__law_is_whole) (C8.fnScope s__law_is_whole) .none kV_law_is_whole doc_law_is_whole pm_law_is_whole an_law_is_whole cd_law_is_whole ct_law_is_whole) := ⟨⟨⟨_, _, _, _, _, _, _, _, _, _, rfl, l_law_is_whole, v_law_is_whole⟩⟩, PySem.W.mg_of X G a_law_is_whole, p_law_is_whole⟩
  have b_law_is_whole : Binds K (PySem.W.fnOf "_law_is_whole" "_law_is_whole" (C8.fnArgs s__law_is_whole) (C8.fnBody s__law_is_whole) (C8.fnScope s__law_is_whole) .none kV_law_is_whole doc_law_is_whole pm_law_is_whole an_law_is_whole cd_law_is_whole ct_law_is_whole) ["thing", "least", "upto"] [] := .all fun us hl => match us, hl with | [_, _, _], _ => rfl
  have D_law_all_names : C8.Def K mg "_law_all_names" s__law_all_names f_law_all_names (PySem.W.fnOf "_law_all_names" "_law_all_names" (C8.fnArgs s__law_all_names) (C8.fnBody s__law_all_names) (C8.fnScope s__law_all_names) .none kV_law_all_names doc_law_all_names pm_law_all_names an_law_all_names cd_law_all_names ct_law_all_names) := ⟨⟨⟨_, _, _, _, _, _, _, _, _, _, rfl, l_law_all_names, v_law_all_names⟩⟩, PySem.W.mg_of X G a_law_all_names, p_law_all_names⟩
  have b_law_all_names : Binds K (PySem.W.fnOf "_law_all_names" "_law_all_names" (C8.fnArgs s__law_all_names) (C8.fnBody s__law_all_names) (C8.fnScope s__law_all_names) .none kV_law_all_names doc_law_all_names pm_law_all_names an_law_all_names cd_law_all_names ct_law_all_names) ["hall"] [] := .all fun us hl => match us, hl with | [_], _ => rfl
  have D_law_is_wish : C8.Def K mg "_law_is_wish" s__law_is_wish f_law_is_wish (PySem.W.fnOf "_law_is_wish" "_law_is_wish" (C8.fnArgs s__law_is_wish) (C8.fnBody s__law_is_wish) (C8.fnScope s__law_is_wish) .none kV_law_is_wish doc_law_is_wish pm_law_is_wish an_law_is_wish cd_law_is_wish ct_law_is_wish) := ⟨⟨⟨_, _, _, _, _, _, _, _, _, _, rfl, l_law_is_wish, v_law_is_wish⟩⟩, PySem.W.mg_of X G a_law_is_wish, p_law_is_wish⟩
  have b_law_is_wish : Binds K (PySem.W.fnOf "_law_is_wish" "_law_is_wish" (C8.fnArgs s__law_is_wish) (C8.fnBody s__law_is_wish) (C8.fnScope s__law_is_wish) .none kV_law_is_wish doc_law_is_wish pm_law_is_wish an_law_is_wish cd_law_is_wish ct_law_is_wish) ["hall", "thing"] [] := .all fun us hl => match us, hl with | [_, _], _ => rfl
  have D_law_due : C8.Def K mg "_law_due" s__law_due f_law_due (PySem.W.fnOf "_law_due" "_law_due" (C8.fnArgs s__law_due) (C8.fnBody s__law_due) (C8.fnScope s__law_due) .none kV_law_due doc_law_due pm_law_due an_law_due cd_law_due ct_law_due) := ⟨⟨⟨_, _, _, _, _, _, _, _, _, _, rfl, l_law_due, v_law_due⟩⟩, PySem.W.mg_of X G a_law_due, p_law_due⟩
  have b_law_due : Binds K (PySem.W.fnOf "_law_due" "_law_due" (C8.fnArgs s__law_due) (C8.fnBody s__law_due) (C8.fnScope s__law_due) .none kV_law_due doc_law_due pm_law_due an_law_due cd_law_due ct_law_due) ["hall", "thing"] [] := .all fun us hl => match us, hl with | [_, _], _ => rfl
  have D_law_bent_wish : C8.Def K mg "_law_bent_wish" s__law_bent_wish f_law_bent_wish (PySem.W.fnOf "_law_bent_wish" "_law_bent_wish" (C8.fnArgs s__law_bent_wish) (C8.fnBody s__law_bent_wish) (C8.fnScope s__law_bent_wish) .none kV_law_bent_wish doc_law_bent_wish pm_law_bent_wish an_law_bent_wish cd_law_bent_wish ct_law_bent_wish) := ⟨⟨⟨_, _, _, _, _, _, _, _, _, _, rfl, l_law_bent_wish, v_law_bent_wish⟩⟩, PySem.W.mg_of X G a_law_bent_wish, p_law_bent_wish⟩
  have b_law_bent_wish : Binds K (PySem.W.fnOf "_law_bent_wish" "_law_bent_wish" (C8.fnArgs s__law_bent_wish) (C8.fnBody s__law_bent_wish) (C8.fnScope s__law_bent_wish) .none kV_law_bent_wish doc_law_bent_wish pm_law_bent_wish an_law_bent_wish cd_law_bent_wish ct_law_bent_wish) ["pen", "hall", "wish"] [] := .all fun us hl => match us, hl with | [_, _, _], _ => rfl
  have D_law_bent : C8.Def K mg "_law_bent" s__law_bent f_law_bent (PySem.W.fnOf "_law_bent" "_law_bent" (C8.fnArgs s__law_bent) (C8.fnBody s__law_bent) (C8.fnScope s__law_bent) .none kV_law_bent doc_law_bent pm_law_bent an_law_bent cd_law_bent ct_law_bent) := ⟨⟨⟨_, _, _, _, _, _, _, _, _, _, rfl, l_law_bent, v_law_bent⟩⟩, PySem.W.mg_of X G a_law_bent, p_law_bent⟩
  have b_law_bent : Binds K (PySem.W.fnOf "_law_bent" "_law_bent" (C8.fnArgs s__law_bent) (C8.fnBody s__law_bent) (C8.fnScope s__law_bent) .none kV_law_bent doc_law_bent pm_law_bent an_law_bent cd_law_bent ct_law_bent) ["pen", "hall", "goal"] [] := .all fun us hl => match us, hl with | [_, _, _], _ => rfl
  have Dlaw : C8.Def K mg "law" s_law fa (PySem.W.fnOf "law" "law" (C8.fnArgs s_law) (C8.fnBody s_law) (C8.fnScope s_law) .none kVlaw doclaw pmlaw anlaw cdlaw ctlaw) := ⟨⟨⟨_, _, _, _, _, _, _, _, _, _, rfl, llaw, vlaw⟩⟩, PySem.W.mg_of X G alaw, plaw⟩
  have blaw : Binds K (PySem.W.fnOf "law" "law" (C8.fnArgs s_law) (C8.fnBody s_law) (C8.fnScope s_law) .none kVlaw doclaw pmlaw anlaw cdlaw ctlaw) ["script"] [] := .all fun us hl => match us, hl with | [_], _ => rfl
  refine ⟨PySem.W.fnOf "law" "law" (C8.fnArgs s_law) (C8.fnBody s_law) (C8.fnScope s_law) .none kVlaw doclaw pmlaw anlaw cdlaw ctlaw, [(cckept_door, Pkept_door), (ccHall___init__, PHall___init__)], spLaw K [(Pkept_door, "kept_door.<locals>.<lambda>"), (PHall___init__, "Hall.__init__.<locals>.<lambda>")], et, ?_, ?_, fun s v => .of_eq rfl, fun Z a ks hl hT hS => ⟨a, ks, rfl, hS, hl, ?_, fun _ => rfl⟩, fun base _ _ TBs => ?_⟩
  · intro t ht
    simp only [List.map_cons, List.map_nil, List.mem_cons, List.not_mem_nil, or_false] at ht
    rcases ht with rfl | rfl
    · exact ltkept_door
    · exact ltHall___init__
  · intro t ht
    simp only [List.mem_cons, List.not_mem_nil, or_false] at ht
    rcases ht with rfl | rfl
    · exact PySem.W.codeHd_of_K X chkept_door
    · exact PySem.W.codeHd_of_K X chHall___init__
  · intro t ht
    simp only [List.mem_cons, List.not_mem_nil, or_false] at ht
    rcases ht with rfl | rfl
    · exact LamX.TabS.nil (hT _ (by simp))
    · exact LamX.TabS.nil (hT _ (by simp))
  have TBkept_door : LamX.TabB base mg cckept_door Pkept_door := TBs (cckept_door, Pkept_door) (by simp)
  have hmkept_door : (Pkept_door, ("kept_door.<locals>.<lambda>" : Str)) ∈ ([(Pkept_door, "kept_door.<locals>.<lambda>"), (PHall___init__, "Hall.__init__.<locals>.<lambda>")] : List (Addr × Str)) := by simp
  have hukept_door : ∀ z ∈ ([(Pkept_door, "kept_door.<locals>.<lambda>"), (PHall___init__, "Hall.__init__.<locals>.<lambda>")] : List (Addr × Str)), z.1 = Pkept_door → z.2 = ("kept_door.<locals>.<lambda>" : Str) := by
    intro z hz e
    simp only [List.mem_cons, List.not_mem_nil, or_false] at hz
    rcases hz with rfl | rfl
    · first
      | rfl
      | (exfalso; simp only at e; simp [e] at tnd)
    · first
      | rfl
      | (exfalso; simp only at e; simp [e] at tnd)
  have TBHall___init__ : LamX.TabB base mg ccHall___init__ PHall___init__ := TBs (ccHall___init__, PHall___init__) (by simp)
  have hmHall___init__ : (PHall___init__, ("Hall.__init__.<locals>.<lambda>" : Str)) ∈ ([(Pkept_door, "kept_door.<locals>.<lambda>"), (PHall___init__, "Hall.__init__.<locals>.<lambda>")] : List (Addr × Str)) := by simp
  have huHall___init__ : ∀ z ∈ ([(Pkept_door, "kept_door.<locals>.<lambda>"), (PHall___init__, "Hall.__init__.<locals>.<lambda>")] : List (Addr × Str)), z.1 = PHall___init__ → z.2 = ("Hall.__init__.<locals>.<lambda>" : Str) := by
    intro z hz e
    simp only [List.mem_cons, List.not_mem_nil, or_false] at hz
    rcases hz with rfl | rfl
    · first
      | rfl
      | (exfalso; simp only at e; simp [e] at tnd)
    · first
      | rfl
      | (exfalso; simp only at e; simp [e] at tnd)
  have T : Txt l.prog w K mg base ⟨⟨CNoGoal, fxNoGoal, _⟩, ⟨CNoName, fxNoName, _⟩⟩ := {
    b_len := PySem.W.mg_none_of X G zlen
    b_abs := PySem.W.mg_none_of X G zabs
    b_list := PySem.W.mg_none_of X G zlist
    b_range := PySem.W.mg_none_of X G zrange
    b_min := PySem.W.mg_none_of X G zmin
    b_max := PySem.W.mg_none_of X G zmax
    b_sum := PySem.W.mg_none_of X G zsum
    b_sorted := PySem.W.mg_none_of X G zsorted
    b_tuple := PySem.W.mg_none_of X G ztuple
    b_int := PySem.W.mg_none_of X G zint
    b_str := PySem.W.mg_none_of X G zstr
    b_isinstance := PySem.W.mg_none_of X G zisinstance
    b_repr := PySem.W.mg_none_of X G zrepr
    b_dict := PySem.W.mg_none_of X G zdict
    b_zip := PySem.W.mg_none_of X G zzip
    b_KeyError := PySem.W.mg_none_of X G zKeyError
    x_NoGoal := ⟨PySem.W.mg_of X G aNoGoal, xcNoGoal, xiNoGoal, oNoGoalat, iNoGoal, yNoGoal, i_NoGoal FxNoGoal, kbn_p fun us hl => match us, hl with | [_, _], _ => rfl, kbn_k fun _ _ => rfl⟩
    x_NoName := ⟨PySem.W.mg_of X G aNoName, xcNoName, xiNoName, oNoNameasked, iNoName, yNoName, i_NoName FxNoName, kbn_p fun us hl => match us, hl with | [_, _], _ => rfl, kbn_k fun _ _ => rfl⟩ }
  have TH : TxtH K CHall := ⟨clHall, nHall_rooms, nHall_doors, nHall_leads, nHall_stones, nHall_walkers, nHall_hefts, nHall_hands⟩
  have cd := c_draw T D_law_draw b_law_draw
  have cp := c_pick T cd D_law_pick b_law_pick
  have cn := c_named T Dnamed bnamed
  have ck := c_kept T TBkept_door Dkept_door rfl bkept_door hmkept_door hukept_door
  have cl := c_leads T Dleads_of bleads_of
  have ih := i_hall T TH TBHall___init__ ck cl FHall___init__ rfl hmHall___init__ huHall___init__
  have kH : C8.Mak l.prog w K mg base 5 "Hall" CHall (spInit K _ CHall) [] := ⟨_, _, _, _, meHall___init__, ih, PySem.W.mg_of X G aHall, bHall___init__, .nil⟩
  have ch := c_hall T (c_names T cd cp D_law_names b_law_names) (c_hallOf T cd cp (c_heft T cd D_law_heft b_law_heft) (c_rows T cd cp D_law_rows b_law_rows) D_law_hall_of b_law_hall_of) D_law_hall b_law_hall
  have mW := m_walkers T TH meHall_walkers FHall_walkers bHall_walkers
  have mS := m_stones T TH meHall_stones FHall_stones bHall_stones
  have mR := m_rooms T TH meHall_rooms FHall_rooms bHall_rooms
  have isn := c_isname T (PySem.W.mg_of X G aLETTERS) (PySem.W.mg_none_of X G zall) (PySem.W.mg_of X G aLONGEST_NAME) Dis_name bis_name
  have pen := c_pen T D_law_pen b_law_pen
  have made := c_made T kH D_law_made b_law_made
  have wA := c_wholeA T (PySem.W.mg_none_of X G zbool) Dis_whole bis_whole
  have w2 := c_wish2 T (PySem.W.mg_of X G aMOST_HEFT) mR mW mS wA Dis_wish_of_two bis_wish_of_two
  have iw := c_isWish T isn w2 Dis_wish bis_wish
  have ne := c_need T (PySem.W.mg_of X G aMOST_WISHES) (PySem.W.mg_none_of X G zenumerate) (r_NoGoal FxNoGoal) iw Dneed_goal bneed_goal
  have wl := c_wholeL T (PySem.W.mg_none_of X G zbool) D_law_is_whole b_law_is_whole
  have lw := c_lIsWish T wl D_law_is_wish b_law_is_wish
  have du := c_due T lw D_law_due b_law_due
  have al := c_allN T D_law_all_names b_law_all_names
  have bw := c_bentWi T cd cp al D_law_bent_wish b_law_bent_wish
  have bg := c_bentG T cd cp bw D_law_bent b_law_bent
  have wi := c_wishF T cd cp D_law_wish b_law_wish
  exact c_law T pen cd cp ch made wi bg du ne Dlaw
end Wd

set_option Elab.async false
set_option linter.all false
set_option maxRecDepth 100000
open PySem PySem.W PyProof.Rows
set_option maxHeartbeats 0 in
theorem PySem.Challenge.cw_weighdoors_k23_goals_or_not_holds : PySem.Challenge.rw_weighdoors_k23_goals_or_not.Holds := by
  w_on; o_law; k_head; (case hw => w_witness2)
  k_fill
  refine Wd.walk_gT (l := PySem.Challenge.rw_weighdoors_k23_goals_or_not) (n := 63) (k := 8) (x := "script") rfl (by decide) rfl ⟨rfl, by decide, by decide⟩ (fun w h Y => PySem.W.km_in_of Y) ?F
  case F =>
    intro w mg fa h Y KX G hmg
    refine' Wd.all_mk KX G hmg (PySem.W.km_tabs_of Y) ?aNoGoal ?xNoGoal ?sNoGoal ?gNoGoal ?hNoGoal ?eNoGoal ?tNoGoal ?kNoGoal ?dNoGoal ?cNoGoal ?mNoGoal ?oNoGoalat ?iNoGoal ?yNoGoal ?lxNoGoal ?vxNoGoal ?aNoName ?xNoName ?sNoName ?gNoName ?hNoName ?eNoName ?tNoName ?kNoName ?dNoName ?cNoName ?mNoName ?oNoNameasked ?iNoName ?yNoName ?lxNoName ?vxNoName ?sp_ ?tk_ ?aHall ?pgHall ?hdHall ?poHall ?saHall ?mkHall ?kcHall ?nHall_rooms ?nHall_doors ?nHall_leads ?nHall_stones ?nHall_walkers ?nHall_hefts ?nHall_hands ?aHall___init__ ?iHall___init__ ?lHall___init__ ?vHall___init__ ?pHall___init__ ?aHall_rooms ?iHall_rooms ?lHall_rooms ?vHall_rooms ?pHall_rooms ?aHall_stones ?iHall_stones ?lHall_stones ?vHall_stones ?pHall_stones ?aHall_walkers ?iHall_walkers ?lHall_walkers ?vHall_walkers ?pHall_walkers ?ais_name ?lis_name ?vis_name ?pis_name ?ais_whole ?lis_whole ?vis_whole ?pis_whole ?aneed_goal ?lneed_goal ?vneed_goal ?pneed_goal ?ais_wish ?lis_wish ?vis_wish ?pis_wish ?ais_wish_of_two ?lis_wish_of_two ?vis_wish_of_two ?pis_wish_of_two ?akept_door ?lkept_door ?vkept_door ?pkept_door ?aleads_of ?lleads_of ?vleads_of ?pleads_of ?anamed ?lnamed ?vnamed ?pnamed ?a_law_pen ?l_law_pen ?v_law_pen ?p_law_pen ?a_law_draw ?l_law_draw ?v_law_draw ?p_law_draw ?a_law_pick ?l_law_pick ?v_law_pick ?p_law_pick ?a_law_names ?l_law_names ?v_law_names ?p_law_names ?a_law_heft ?l_law_heft ?v_law_heft ?p_law_heft ?a_law_rows ?l_law_rows ?v_law_rows ?p_law_rows ?a_law_hall ?l_law_hall ?v_law_hall ?p_law_hall ?a_law_hall_of ?l_law_hall_of ?v_law_hall_of ?p_law_hall_of ?a_law_made ?l_law_made ?v_law_made ?p_law_made ?a_law_wish ?l_law_wish ?v_law_wish ?p_law_wish ?a_law_is_whole ?l_law_is_whole ?v_law_is_whole ?p_law_is_whole ?a_law_all_names ?l_law_all_names ?v_law_all_names ?p_law_all_names ?a_law_is_wish ?l_law_is_wish ?v_law_is_wish ?p_law_is_wish ?a_law_due ?l_law_due ?v_law_due ?p_law_due ?a_law_bent_wish ?l_law_bent_wish ?v_law_bent_wish ?p_law_bent_wish ?a_law_bent ?l_law_bent ?v_law_bent ?p_law_bent ?alaw ?llaw ?vlaw ?plaw ?aLETTERS ?aLONGEST_NAME ?aMOST_HEFT ?aMOST_WISHES ?zall ?zbool ?zenumerate ?zValueError ?chkept_door ?ltkept_door ?chHall___init__ ?ltHall___init__ ?tnd ?zlen ?zabs ?zlist ?zrange ?zmin ?zmax ?zsum ?zsorted ?ztuple ?zint ?zstr ?zisinstance ?zrepr ?zdict ?zzip ?zKeyError
    (case aNoGoal => k_is); (case xNoGoal => k_is); (case sNoGoal => k_is); (case gNoGoal => k_is); (case hNoGoal => k_is); (case eNoGoal => k_is)
    (case tNoGoal => k_is); (case kNoGoal => k_is); (case dNoGoal => k_is); (case cNoGoal => k_is); (case mNoGoal => k_is); (case oNoGoalat => k_is)
    (case iNoGoal => k_is); (case yNoGoal => k_is); (case lxNoGoal => k_is); (case vxNoGoal => k_is); (case aNoName => k_is); (case xNoName => k_is)
    (case sNoName => k_is); (case gNoName => k_is); (case hNoName => k_is); (case eNoName => k_is); (case tNoName => k_is); (case kNoName => k_is)
    (case dNoName => k_is); (case cNoName => k_is); (case mNoName => k_is); (case oNoNameasked => k_is); (case iNoName => k_is); (case yNoName => k_is)
    (case lxNoName => k_is); (case vxNoName => k_is); (case sp_ => k_is); (case tk_ => k_is); (case aHall => k_is); (case pgHall => k_is)
    (case hdHall => k_is); (case poHall => k_is); (case saHall => k_is); (case mkHall => k_is); (case kcHall => k_is); (case nHall_rooms => k_is)
    (case nHall_doors => k_is); (case nHall_leads => k_is); (case nHall_stones => k_is); (case nHall_walkers => k_is); (case nHall_hefts => k_is); (case nHall_hands => k_is)
    (case aHall___init__ => k_is); (case iHall___init__ => k_is); (case lHall___init__ => k_is); (case vHall___init__ => k_is); (case pHall___init__ => k_is); (case aHall_rooms => k_is)
    (case iHall_rooms => k_is); (case lHall_rooms => k_is); (case vHall_rooms => k_is); (case pHall_rooms => k_is); (case aHall_stones => k_is); (case iHall_stones => k_is)
    (case lHall_stones => k_is); (case vHall_stones => k_is); (case pHall_stones => k_is); (case aHall_walkers => k_is); (case iHall_walkers => k_is); (case lHall_walkers => k_is)
    (case vHall_walkers => k_is); (case pHall_walkers => k_is); (case ais_name => k_is); (case lis_name => k_is); (case vis_name => k_is); (case pis_name => k_is)
    (case ais_whole => k_is); (case lis_whole => k_is); (case vis_whole => k_is); (case pis_whole => k_is); (case aneed_goal => k_is); (case lneed_goal => k_is)
    (case vneed_goal => k_is); (case pneed_goal => k_is); (case ais_wish => k_is); (case lis_wish => k_is); (case vis_wish => k_is); (case pis_wish => k_is)
    (case ais_wish_of_two => k_is); (case lis_wish_of_two => k_is); (case vis_wish_of_two => k_is); (case pis_wish_of_two => k_is); (case akept_door => k_is); (case lkept_door => k_is)
    (case vkept_door => k_is); (case pkept_door => k_is); (case aleads_of => k_is); (case lleads_of => k_is); (case vleads_of => k_is); (case pleads_of => k_is)
    (case anamed => k_is); (case lnamed => k_is); (case vnamed => k_is); (case pnamed => k_is); (case a_law_pen => k_is); (case l_law_pen => k_is)
    (case v_law_pen => k_is); (case p_law_pen => k_is); (case a_law_draw => k_is); (case l_law_draw => k_is); (case v_law_draw => k_is); (case p_law_draw => k_is)
    (case a_law_pick => k_is); (case l_law_pick => k_is); (case v_law_pick => k_is); (case p_law_pick => k_is); (case a_law_names => k_is); (case l_law_names => k_is)
    (case v_law_names => k_is); (case p_law_names => k_is); (case a_law_heft => k_is); (case l_law_heft => k_is); (case v_law_heft => k_is); (case p_law_heft => k_is)
    (case a_law_rows => k_is); (case l_law_rows => k_is); (case v_law_rows => k_is); (case p_law_rows => k_is); (case a_law_hall => k_is); (case l_law_hall => k_is)
    (case v_law_hall => k_is); (case p_law_hall => k_is); (case a_law_hall_of => k_is); (case l_law_hall_of => k_is); (case v_law_hall_of => k_is); (case p_law_hall_of => k_is)
    (case a_law_made => k_is); (case l_law_made => k_is); (case v_law_made => k_is); (case p_law_made => k_is); (case a_law_wish => k_is); (case l_law_wish => k_is)
    (case v_law_wish => k_is); (case p_law_wish => k_is); (case a_law_is_whole => k_is); (case l_law_is_whole => k_is); (case v_law_is_whole => k_is); (case p_law_is_whole => k_is)
    (case a_law_all_names => k_is); (case l_law_all_names => k_is); (case v_law_all_names => k_is); (case p_law_all_names => k_is); (case a_law_is_wish => k_is); (case l_law_is_wish => k_is)
    (case v_law_is_wish => k_is); (case p_law_is_wish => k_is); (case a_law_due => k_is); (case l_law_due => k_is); (case v_law_due => k_is); (case p_law_due => k_is)
    (case a_law_bent_wish => k_is); (case l_law_bent_wish => k_is); (case v_law_bent_wish => k_is); (case p_law_bent_wish => k_is); (case a_law_bent => k_is); (case l_law_bent => k_is)
    (case v_law_bent => k_is); (case p_law_bent => k_is); (case alaw => k_is); (case llaw => k_is); (case vlaw => k_is); (case plaw => k_is)
    (case aLETTERS => k_is); (case aLONGEST_NAME => k_is); (case aMOST_HEFT => k_is); (case aMOST_WISHES => k_is); (case zall => k_is); (case zbool => k_is)
    (case zenumerate => k_is); (case zValueError => k_is); (case chkept_door => first | rfl | kernel_rfl); (case ltkept_door => first | rfl | kernel_rfl); (case chHall___init__ => first | rfl | kernel_rfl); (case ltHall___init__ => first | rfl | kernel_rfl)
    (case tnd => first | decide | k_is); (case zlen => k_is); (case zabs => k_is); (case zlist => k_is); (case zrange => k_is); (case zmin => k_is)
    (case zmax => k_is); (case zsum => k_is); (case zsorted => k_is); (case ztuple => k_is); (case zint => k_is); (case zstr => k_is)
    (case zisinstance => k_is); (case zrepr => k_is); (case zdict => k_is); (case zzip => k_is); (case zKeyError => k_is)
