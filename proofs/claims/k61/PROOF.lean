import PyProof.Rows.All
import Wide.All
import OpenK.AllK
import Wide.FinOn
import PyProof.EqAt
import PyProof.EqKinds
import PyProof.TupleCall
import HandS.ForMost
import HandS.Codes
import HandS.Wide
import HandS.Style
import HandS.Flow
import HandS.TupAny
import HandS.IsInst
import HandS.ExcInit
import HandS.SortKw
import HandS.DictComp
import HandS.Exc
import HandS.WordsExc
import HandS.MakeKw
import HandS.ExcIs
import HandS.ExcField
import HandS.ExcValue
import PyProof.ReprRoads
import PySem.Challenge.RW_weighdoors_k61_lots_that_cover
import HandS.More
import HandS.Conv
import HandS.ListItems
import HandS.Iter
import KE.KDictList
import KE.KTupSum
import KE.SortKeyHeap
import HandS.Lambda
import PyProof.TupleOfSeq
import HandS.Keys
import HandS.TryOnly
import HandS.Walk
import PyProof.ReprLen
import HandS.SetFor
import PyProof.SeqRoads2
import KE.GoesZip
import KE.KDictZip
import HandS.Zip
import KE.SortData
import PyProof.FactsAll.dict_1
import PyProof.FactsAll.subtypes_3
import PyProof.FactsAll.subtypes_4
import HandS.Deep
import HandS.Sort
import HandS.AnyAll
set_option Elab.async false
set_option linter.all false
set_option maxRecDepth 100000
set_option maxHeartbeats 4000000
/-! General rules by values, of which the ones of the hand layer are the cases. -/
namespace Wd
open PySem PySem.Spec PyProof.Rows L2

/-! ### operators whose meaning hangs on the values -/
def rAddG (K : PySem.W.Frag) : R2 := fun x y H Q => match x, y with
  | .int i, .int j => Q (.int (i + j)) H
  | .str a, .str b => a.length + b.length ≤ sizeLine ∧ Q (.str (a ++ b)) H
  | .ref a, .ref b => rCat (.ref a) (.ref b) H Q ∨ rCatA K (.ref a) (.ref b) H Q
  | _, _ => False
theorem op_addG {X : Cx} {K : PySem.W.Frag} (hK : X.K = K := by rfl) : OpR X (binaryOp .Add) (rAddG K) := by
  subst hK
  intro pins s σ H x y v u Q I rx ry h
  cases x <;> cases y <;> first | exact h.elim | skip
  case int.int i j => exact op_add pins s σ H _ _ v u Q I rx ry ⟨i, j, rfl, rfl, h⟩
  case str.str a b => exact op_add_str pins s σ H _ _ v u Q I rx ry ⟨a, b, rfl, rfl, h.1, h.2⟩
  case ref.ref a b =>
    rcases h with h | h
    · exact op_cat pins s σ H _ _ v u Q I rx ry h
    · exact op_catA pins s σ H _ _ v u Q I rx ry h
def rMulG (K : PySem.W.Frag) : R2 := fun x y H Q => match x, y with
  | .int i, .int j => CMul i j ∧ Q (.int (i * j)) H
  | .ref a, .int k => rRep (.ref a) (.int k) H Q
  | _, _ => False
theorem op_mulG {X : Cx} {K : PySem.W.Frag} (hK : X.K = K := by rfl) : OpR X (binaryOp .Mult) (rMulG K) := by
  subst hK
  intro pins s σ H x y v u Q I rx ry h
  cases x <;> cases y <;> first | exact h.elim | skip
  case int.int i j => exact op_mul pins s σ H _ _ v u Q I rx ry ⟨i, j, rfl, rfl, h.1, h.2⟩
  case ref.int a k => exact op_rep pins s σ H _ _ v u Q I rx ry h
def rEqX (K : PySem.W.Frag) : R2 := fun x y H Q => rEq x y H Q ∨ rEqD K x y H Q
def rNeX (K : PySem.W.Frag) : R2 := fun x y H Q => rNe x y H Q ∨ rNeD K x y H Q
theorem op_eqX {X : Cx} {K : PySem.W.Frag} (hu : X.A.units + 64 < cLine) (hK : X.K = K := by rfl) : OpR X (compareOp .Eq) (rEqX K) := by
  subst hK
  exact op_eq.or (op_eqD hu)
theorem op_neX {X : Cx} {K : PySem.W.Frag} (hu : X.A.units + 64 < cLine) (hK : X.K = K := by rfl) : OpR X (compareOp .NotEq) (rNeX K) := by
  subst hK
  exact op_ne.or (op_neD hu)
def rLenG (K : PySem.W.Frag) : List V → Hp → VK → Prop := fun xs H Q => match xs with
  | [.str z] => z.length ≤ sizeLine ∧ Q (.int z.length) H
  | [.ref p] => (∃ ys, (SqL K H p ys ∨ SqT K H p ys) ∧ Q (.int ys.length) H) ∨ ∃ kvs, H p = some (.dK kvs) ∧ Q (.int kvs.length) H
  | _ => False
theorem call_lenG {X : Cx} {K : PySem.W.Frag} (hK : X.K = K := by rfl) : CallR X (.builtin "len") (rLenG K) := by
  subst hK
  intro pins s σ H xs us Q I r h
  match xs, h with
  | [.str z], h => exact call_len_str pins s σ H _ us Q I r ⟨z, rfl, h.1, h.2⟩
  | [.ref p], h =>
    rcases h with ⟨ys, h1, h2⟩ | ⟨kvs, h1, h2⟩
    · exact call_len_seq pins s σ H _ us Q I r ⟨p, ys, rfl, h1, h2⟩
    · exact call_lenD pins s σ H _ us Q I r ⟨p, kvs, rfl, h1, h2⟩
  | [], h => exact h.elim
  | [.non], h => exact h.elim
  | [.bl _], h => exact h.elim
  | [.int _], h => exact h.elim
  | [.byt _], h => exact h.elim
  | [.flt _], h => exact h.elim
  | [.ty _], h => exact h.elim
  | a :: _ :: _, h => cases a <;> exact h.elim
def rSlG (K : PySem.W.Frag) : V → Option Int → Option Int → Hp → VK → Prop := fun x lo hi H Q => rSlL K x lo hi H Q ∨ (rSlA K x lo hi H Q ∨ C8.rSlX x lo hi H Q)
theorem sl_any {X : Cx} {K : PySem.W.Frag} (hK : X.K = K := by rfl) : SlR X (rSlG K) := by
  subst hK
  exact sl_list.or (sl_tupA.or C8.sl_txt)
theorem ixG {X : Cx} {K : PySem.W.Frag} (hK : X.K = K := by rfl) : IxR X (rIx K) := by
  subst hK
  exact ix_seq
theorem pe_andK {X : Cx} {K : PySem.W.Frag} {a b : Expr} {rest : List Expr} {pos : Pos} {ta tb : TE} (ha : PE X a ta) (hb : PE X (.BoolOp .And (b :: rest) pos) tb) (hK : X.K = K := by rfl) : PE X (.BoolOp .And (a :: b :: rest) pos) (tAndT K ta tb) := by
  subst hK
  exact pe_andT ha hb
theorem pe_orK {X : Cx} {K : PySem.W.Frag} {a b : Expr} {rest : List Expr} {pos : Pos} {ta tb : TE} (ha : PE X a ta) (hb : PE X (.BoolOp .Or (b :: rest) pos) tb) (hK : X.K = K := by rfl) : PE X (.BoolOp .Or (a :: b :: rest) pos) (tOrT K ta tb) := by
  subst hK
  exact pe_orT ha hb
theorem pe_notK {X : Cx} {K : PySem.W.Frag} {a : Expr} {pos : Pos} {ta : TE} (ha : PE X a ta) (hK : X.K = K := by rfl) : PE X (.UnaryOp .Not a pos) (tNotT K ta) := by
  subst hK
  exact pe_notT ha
def tTruK (K : PySem.W.Frag) (ta : TE) : TT := fun σ H Q => ta σ H fun x H' => ∃ k, TruV K x H' k ∧ Q k H'
theorem pt_truK {X : Cx} {K : PySem.W.Frag} {a : Expr} {ta : TE} (ha : PE X a ta) (he : ∀ whole, isTrue a X.env whole = (do let v ← whole; standAt a.pos; holding [v] (truthy v))) (hK : X.K = K := by rfl) : PT X a (tTruK K ta) := by
  subst hK
  exact pt_truth ha he
theorem pi_listK {X : Cx} {K : PySem.W.Frag} {tg l : Expr} {tl : TE} (h : PE X l tl) (hK : X.K = K := by rfl) : PI X tg l (iList K tl) := by
  subst hK
  exact pi_list h
theorem pi_tupK {X : Cx} {K : PySem.W.Frag} {tg l : Expr} {tl : TE} (h : PE X l tl) (hK : X.K = K := by rfl) : PI X tg l (iTup K tl) := by
  subst hK
  exact pi_tup h
theorem pg_tupK {X : Cx} {K : PySem.W.Frag} {es : List Expr} {k : _} {pos : Pos} {t : TGs} {n : Nat} (hc : X.calm = true) (h : PGs X es t) (hK : X.K = K := by rfl) (hn : (assignEach es X.env).length = n := by rfl) (hst : (assignEach es X.env).findIdx? (·.1) = none := by rfl) : PG X (.Tuple es k pos) (gTup K n t) := by
  subst hK
  exact pg_tup hc h hn hst
theorem bt_len : bootBuiltins "len" = some (.builtin "len") := by decide +kernel
theorem bt_abs : bootBuiltins "abs" = some (.builtin "abs") := by decide +kernel
theorem bt_list : bootBuiltins "list" = some (.type "list") := by decide +kernel
theorem bt_range : bootBuiltins "range" = some (.type "range") := by decide +kernel
theorem bt_min : bootBuiltins "min" = some (.builtin "min") := by decide +kernel
theorem bt_max : bootBuiltins "max" = some (.builtin "max") := by decide +kernel
theorem bt_repr : bootBuiltins "repr" = some (.builtin "repr") := by decide +kernel
theorem bt_isinstance : bootBuiltins "isinstance" = some (.builtin "isinstance") := by decide +kernel
theorem bt_sum : bootBuiltins "sum" = some (.builtin "sum") := by decide +kernel
theorem bt_sorted : bootBuiltins "sorted" = some (.builtin "sorted") := by decide +kernel
theorem bt_any : bootBuiltins "any" = some (.builtin "any") := by decide +kernel
theorem bt_all : bootBuiltins "all" = some (.builtin "all") := by decide +kernel
theorem bt_tuple : bootBuiltins "tuple" = some (.type "tuple") := by decide +kernel
theorem bt_dict : bootBuiltins "dict" = some (.type "dict") := by decide +kernel
theorem bt_int : bootBuiltins "int" = some (.type "int") := by decide +kernel
theorem bt_str : bootBuiltins "str" = some (.type "str") := by decide +kernel
theorem bt_enumerate : bootBuiltins "enumerate" = some (.type "enumerate") := by decide +kernel
theorem bt_zip : bootBuiltins "zip" = some (.type "zip") := by decide +kernel
theorem bt_reversed : bootBuiltins "reversed" = some (.type "reversed") := by decide +kernel
theorem hu64 {A : Around} {k : Nat} (hr : Room k A) : A.units + 64 < cLine := by
  have := hr.un
  omega
end Wd

set_option Elab.async false
set_option linter.all false
set_option maxRecDepth 100000
set_option maxHeartbeats 4000000
/-! Defs that are run where no guard is known to run (repr asks for that): FnG beside FnOk. -/
namespace Wd
open PySem PySem.Spec PyProof.Rows L2

/-- as FnOk, for an Around without guards -/
structure FnG (P : Program) (w : World) (K : PySem.W.Frag) (mg : Str → Option Value) (base : Heap) (CX : CXT) (k : Nat) (f : Addr) (fd : FuncData) (ps : List Str) (sp : Sp) : Prop where
  len : ∀ xs G R E, sp xs G R E → xs.length = ps.length
  run : ∀ (A : Around) (out : List Env) (z : Shared) (G : Hp) (args : Args) (us : List Value) (xs : List V) (R : VK) (E : XK), A.guards = some [] → Room k A → Env0 P w K mg base A out z G →
    BindsTo z fd args (ps.zip us) → Vals xs us → sp xs G R E → codeAny (model P w) A (.call (.ref f) args) (CR CX out P w G z R E) z
theorem FnG.mono {P : Program} {w : World} {K : PySem.W.Frag} {mg : Str → Option Value} {base : Heap} {CX : CXT} {j k : Nat} {f : Addr} {fd : FuncData} {ps : List Str} {sp : Sp}
    (F : FnG P w K mg base CX j f fd ps sp) (h : j ≤ k) : FnG P w K mg base CX k f fd ps sp :=
  ⟨F.len, fun A out z G args us xs R E hg hr => F.run A out z G args us xs R E hg (hr.mono h)⟩
theorem fng_ok {P : Program} {w : World} {K : PySem.W.Frag} {mg : Str → Option Value} {base : Heap} {CX : CXT} {k : Nat} {f : Addr} {fd : FuncData} {ps : List Str} {sp : Sp}
    (F : FnOk P w K mg base CX k f fd ps sp) : FnG P w K mg base CX k f fd ps sp :=
  ⟨F.len, fun A out z G args us xs R E _ hr => F.run A out z G args us xs R E hr⟩
/-- a def by its body -/
theorem fng_of {CX : CXT} {P : Program} {w : World} {K : PySem.W.Frag} {mg : Str → Option Value} {base : Heap} {k : Nat} {f : Addr} {nm ql : Str} {pa : Arguments} {bd : List Stmt} {sc : Scope} {dV kV doc pm cv ct oc : Value} {an od : Option Addr}
    {sl : Array (Option Value)} {N ps : List Str} {sp : Sp} (lk : K.lookup f = some ⟨oc, od, .func (PySem.W.fnOf nm ql pa bd sc dV kV doc pm an cv ct), sl⟩) (hc : PySem.W.codeIn K cv ql = true) (S : FnScope N ps sc)
    (len : ∀ xs G R E, sp xs G R E → xs.length = ps.length)
    (hb : ∀ (A : Around) (out : List Env) (z : Shared) (G : Hp) (xs : List V) (R : VK) (E : XK), A.guards = some [] → Room k (A.deeper (envOfC ql sc z.heap.objs.size f cv)) → sp xs G R E →
      ∃ t, PSs (cxOf CX P w K mg base N ql sc f cv A out z G E) bd t ∧ t { nx := fun _ G' => R .non G', rt := R } (start N xs) G) :
    FnG P w K mg base CX (k + 1) f (PySem.W.fnOf nm ql pa bd sc dV kV doc pm an cv ct) ps sp := by
  refine ⟨len, fun A out z G args us xs R E hgd hrm en bind rel hsp => ?_⟩
  have hlen := len _ _ _ _ hsp
  have inK : K.In z.heap := en.mod.kin.keeps fun b o e => (en.bs b o e).1
  have nolim : z.heap.NoLimit := en.mod.nolimit.keeps fun b o e => (en.bs b o e).1
  have kinds : ∀ y ∈ ps.zip us, sc.names.lookup y.1 = some .local ∨ (sc.names.lookup y.1 = some .cell ∧ ((cellsFrom (z.heap.objs.size + 1) sc.names []).lookup y.1).isSome = true) := by
    rintro ⟨n, v⟩ hy
    rcases S.par n (List.of_mem_zip hy).1 with q | q
    · exact .inl q
    · exact .inr ⟨q, PySem.W.cellsFrom_some _ _ _ (.inl q)⟩
  refine codeAny_call_function hrm.depth (inK _ _ lk) rfl S.co S.gen rfl (PySem.W.codeRec_of inK hc) (bind _ _ _ _ ?_)
  refine wpAny_newFunctionEnv_cells S.kind kinds fun env ee z1 xx => ?_
  subst ee
  refine ⟨nolim.keeps xx.toInCall.keep, codeAny_func ?_⟩
  obtain ⟨t, ht, hq⟩ := hb A out z G xs R E hgd (hrm.deeper _) hsp
  have J0 : Inv (cxOf CX P w K mg base N ql sc f cv A out z G E) [] (start N xs) G z1 := inv_start S hrm.hd en hlen rel xx
  refine wpAny_mono (ht.run [] z1 (start N xs) G _ J0 hq) (fun fl z2 hs => ?_) fun e z2 hs => hs
  have fin : ∀ {τ : L2.St} {G' : Hp} {v : V} {u : Value}, Inv (cxOf CX P w K mg base N ql sc f cv A out z G E) [] τ G' z2 → RelV v u → R v G' → CE out P w G z R u z2 :=
    fun {τ G' v u} J rv q => ⟨v, G', J.os, J.bare, J.base, J.hok, rv, q⟩
  match fl, hs with
  | .ret u, hs =>
    obtain ⟨v, τ, G', J, rv, q⟩ := hs
    exact fin J rv q
  | .next, hs =>
    obtain ⟨τ, G', J, q⟩ := hs
    exact fin (v := V.non) (u := Value.none) J rfl q
  | .brk, ⟨_, _, _, q⟩ => exact False.elim q
  | .cont, ⟨_, _, _, q⟩ => exact False.elim q

/-- a def that may be called by its name, where no guard runs -/
structure CalG (P : Program) (w : World) (K : PySem.W.Frag) (mg : Str → Option Value) (base : Heap) (k : Nat) (x : Str) (sp : Sp) : Prop where
  ex : ∃ (f : Addr) (fd : FuncData) (ps : List Str), FnG P w K mg base CX0 k f fd ps sp ∧ mg x = some (.ref f) ∧ PySem.W.keepIn K (.ref f) = true ∧ Binds K fd ps []
theorem C8cal_g {P : Program} {w : World} {K : PySem.W.Frag} {mg : Str → Option Value} {base : Heap} {k : Nat} {f : Addr} {fd : FuncData} {ps : List Str} {x : Str} {sp : Sp}
    (F : FnOk P w K mg base CX0 k f fd ps sp) (hm : mg x = some (.ref f)) (kp : PySem.W.keepIn K (.ref f) = true) (b : Binds K fd ps []) : CalG P w K mg base k x sp := ⟨f, fd, ps, fng_ok F, hm, kp, b⟩
section
variable {P : Program} {w : World} {K : PySem.W.Frag} {mg : Str → Option Value} {base : Heap}
theorem fng {x : Str} {st : Stmt} {f : Addr} {fd : FuncData} {N ps : List Str} {k : Nat} {sp : Sp} (F : C8.Def K mg x st f fd) (S : FnScope N ps (C8.fnScope st)) (len : ∀ xs G R E, sp xs G R E → xs.length = ps.length)
    (hb : ∀ (cv : Value) (A : Around) (out : List Env) (z : Shared) (G : Hp) (xs : List V) (R : VK) (E : XK), (A.deeper (envOfC x (C8.fnScope st) z.heap.objs.size f cv)).guards = some [] → Room k (A.deeper (envOfC x (C8.fnScope st) z.heap.objs.size f cv)) → sp xs G R E →
      ∃ t, PSs (cxOf CX0 P w K mg base N x (C8.fnScope st) f cv A out z G E).nox (C8.fnBody st) t ∧ t { nx := fun _ G' => R .non G', rt := R } (start N xs) G) : FnG P w K mg base CX0 (k + 1) f fd ps sp := by
  obtain ⟨oc, od, dV, kV, doc, pm, an, cv, ct, sl, rfl, lk, hc⟩ := F.fn.ex
  refine fng_of lk hc S len fun A out z G xs R E hg hr hsp => ?_
  obtain ⟨t, h, q⟩ := hb cv A out z G xs R E hg hr hsp
  exact ⟨t, h.nox, q⟩
theorem calg {x : Str} {st : Stmt} {f : Addr} {fd : FuncData} {N ps : List Str} {k : Nat} {sp : Sp} (F : C8.Def K mg x st f fd) (b : Binds K fd ps []) (S : FnScope N ps (C8.fnScope st)) (len : ∀ xs G R E, sp xs G R E → xs.length = ps.length)
    (hb : ∀ (cv : Value) (A : Around) (out : List Env) (z : Shared) (G : Hp) (xs : List V) (R : VK) (E : XK), (A.deeper (envOfC x (C8.fnScope st) z.heap.objs.size f cv)).guards = some [] → Room k (A.deeper (envOfC x (C8.fnScope st) z.heap.objs.size f cv)) → sp xs G R E →
      ∃ t, PSs (cxOf CX0 P w K mg base N x (C8.fnScope st) f cv A out z G E).nox (C8.fnBody st) t ∧ t { nx := fun _ G' => R .non G', rt := R } (start N xs) G) : CalG P w K mg base (k + 1) x sp := by
  refine ⟨f, fd, ps, ?_, F.mgf, F.kp, b⟩
  obtain ⟨oc, od, dV, kV, doc, pm, an, cv, ct, sl, rfl, lk, hc⟩ := F.fn.ex
  refine fng_of lk hc S len fun A out z G xs R E hg hr hsp => ?_
  obtain ⟨t, h, q⟩ := hb cv A out z G xs R E hg hr hsp
  exact ⟨t, h.nox, q⟩
end
section
variable {X : Cx} {k j : Nat} {f : Addr} {fd : FuncData} {ps : List Str} {x : Str} {sp : Sp} {CX : CXT} {E : XK} {p pos : Pos} {e : Expr} {es : List Expr} {t : TA}
theorem run_fng {pins : List (Addr × Obj)} {σ : L2.St} {H : Hp} {s : Shared} {R : VK} {us : List Value} {xs : List V} (F : FnG X.prog X.w X.K X.mg X.base CX k f fd ps sp) (hgd : X.A.guards = some []) (hr : Room k X.A) (b : Binds X.K fd ps [])
    (hx : Passes CX X E) (I : Inv X pins σ H s) (r : Vals xs us) (h : sp xs H R E) : wpAny (model X.prog X.w) X.A (call (.ref f) us) (EP X pins σ R) X.xe s := by
  have hl : us.length = ps.length := by rw [← r.length]; exact F.len _ _ _ _ h
  have bb := b s us I.kIn (by rw [List.append_nil]; exact hl)
  rw [List.append_nil] at bb
  refine wpAny_call (codeAny_mono (F.run X.A X.stack s H ⟨us, []⟩ us xs R E hgd hr I.env0 bb r h) fun rr z hq => ?_)
  match rr, hq with
  | .error e, hq => exact hx pins σ H s e z I hq
  | .ok (.ret u), hq => exact I.after hq
  | .ok .next, hq => exact False.elim hq
  | .ok .brk, hq => exact False.elim hq
  | .ok .cont, hq => exact False.elim hq
theorem pe_g (c : CalG X.prog X.w X.K X.mg X.base k x sp) (hgd : X.A.guards = some []) (hr : Room j X.A) (hk : k ≤ j) (hg : Gl X x) (ha : PA X (e :: es) t) (hdb : (x == ("__debug__" : Str)) = false := by decide)
    (he : starEach (e :: es) X.env = (false, eval e X.env) :: starEach es X.env := by rfl) (hpl : (backTo pos (starEach es X.env)).any (·.1) = false := by rfl) :
    PE X (.Call (.Name x p) (e :: es) [] pos) (tCall sp [] E0 t) := by
  obtain ⟨f, fd, ps, F, hm, kp, b⟩ := c.ex
  refine ⟨fun pins s σ H Q I h => ?_⟩
  refine wpAny_Call_Name_kw (ld_glob I hg hm ?_ hdb)
  refine PySem.W.callWith_K (h₀ := X.base) I.ok.mod.kin kp (thn (ha.run pos pins s σ H _ I h) fun us s1 ⟨xs, H1, I1, r, q⟩ => ⟨I1.kIn, ?_⟩) he hpl
  refine run_fng F hgd (hr.mono hk) b pass0 I1 r ?_
  rw [← List.append_nil xs]
  exact q
theorem pe_c0 {dvs : List V} (c : C8.Cal X.prog X.w X.K X.mg X.base k x sp dvs) (hr : Room j X.A) (hk : k ≤ j) (hg : Gl X x) (hdb : (x == ("__debug__" : Str)) = false := by decide) : PE X (.Call (.Name x p) [] [] pos) (tCall sp dvs E0 tNil) := by
  obtain ⟨f, fd, ps, ds, F, hm, kp, b, d⟩ := c.ex
  exact pe_call0 F (hr.mono hk) hg hm kp b d pass0 hdb
end
end Wd

set_option Elab.async false
set_option linter.all false
set_option maxRecDepth 100000
set_option maxHeartbeats 4000000
/-! Exceptions of own classes, straight under one of Python's own, whose __init__ stores fields: made as values that are tracked. -/
namespace PySem
namespace WX
open PySem.W PySem.Calls PyProof.Rows PySem.HandSPX
/-- the classes of Python's own above an own error class -/
structure Tail (B newId initId : String) (bmB T : List Value) : Prop where
  F : ExcBaseFacts B newId initId bmB
  hB : T.contains (.type B) = true
  hA : T.contains (.type "AttributeError") = false
  hN : T.contains (.type "NameError") = false
  hO : T.contains (.type "object") = true
  ne : T.isEmpty = false
  pass : ∀ self, refuseLoop self "__setattr__" T = pure ()
def tlV : List Value := [.type "ValueError", .type "Exception", .type "BaseException", .type "object"]
def tlK : List Value := [.type "KeyError", .type "LookupError", .type "Exception", .type "BaseException", .type "object"]
def tlI : List Value := [.type "IndexError", .type "LookupError", .type "Exception", .type "BaseException", .type "object"]
def tlL : List Value := [.type "LookupError", .type "Exception", .type "BaseException", .type "object"]
def tlA : List Value := [.type "ArithmeticError", .type "Exception", .type "BaseException", .type "object"]
def tlO : List Value := [.type "OverflowError", .type "ArithmeticError", .type "Exception", .type "BaseException", .type "object"]
def tlR : List Value := [.type "RuntimeError", .type "Exception", .type "BaseException", .type "object"]
theorem tail_V : Tail "ValueError" "ValueError.__new__" "ValueError.__init__" tlV tlV := ⟨F.excBase_ValueError, by decide +kernel, by decide +kernel, by decide +kernel, by decide +kernel, rfl, fun self => by kernel_rfl⟩
theorem tail_K : Tail "LookupError" "LookupError.__new__" "LookupError.__init__" tlL tlK := ⟨F.excBase_LookupError, by decide +kernel, by decide +kernel, by decide +kernel, by decide +kernel, rfl, fun self => by kernel_rfl⟩
theorem tail_I : Tail "IndexError" "IndexError.__new__" "IndexError.__init__" tlI tlI := ⟨F.excBase_IndexError, by decide +kernel, by decide +kernel, by decide +kernel, by decide +kernel, rfl, fun self => by kernel_rfl⟩
theorem tail_L : Tail "LookupError" "LookupError.__new__" "LookupError.__init__" tlL tlL := ⟨F.excBase_LookupError, by decide +kernel, by decide +kernel, by decide +kernel, by decide +kernel, rfl, fun self => by kernel_rfl⟩
theorem tail_A : Tail "ArithmeticError" "ArithmeticError.__new__" "ArithmeticError.__init__" tlA tlA := ⟨F.excBase_ArithmeticError, by decide +kernel, by decide +kernel, by decide +kernel, by decide +kernel, rfl, fun self => by kernel_rfl⟩
theorem tail_O : Tail "OverflowError" "OverflowError.__new__" "OverflowError.__init__" tlO tlO := ⟨F.excBase_OverflowError, by decide +kernel, by decide +kernel, by decide +kernel, by decide +kernel, rfl, fun self => by kernel_rfl⟩
theorem tail_R : Tail "RuntimeError" "RuntimeError.__new__" "RuntimeError.__init__" tlR tlR := ⟨F.excBase_RuntimeError, by decide +kernel, by decide +kernel, by decide +kernel, by decide +kernel, rfl, fun self => by kernel_rfl⟩
section
variable {prog : Program} {w : World} {M : Model} {A : Around} {E : Value → Shared → Prop} {R : Result → Shared → Prop} {h : Heap} {g : Array GenState} {d : Drawn} {t : Nat} {os : OsState}
variable {nm q : Str} {C N : Addr} {bs T bmB : List Value} {sn : List Str} {sub : List Value} {ab : Bool} {col : Option Bool} {dd : Option Addr} {k0 k1 k2 k3 k5 : Option Value} {B newId initId : String}
theorem xc_check (Z : Tail B newId initId bmB T) {more : List Value} {kw : List (Str × Value)} {Q : Unit → Shared → Prop} (cC : h.get? C = some (excClassObj nm q C N bs T true sn sub ab col dd k0 k1 k2 k3 k5 newId))
    (fin : Q () ⟨h, g, d, t, os⟩) : wpAny M A (checkBuiltinCall newId ⟨.ref C :: more, kw⟩) Q E ⟨h, g, d, t, os⟩ := by
  have inB : (Value.ref C :: T).contains (.type B) = true := by rw [List.contains_cons, Z.hB, Bool.or_true]
  have star := Z.F.noStar
  simp only [checkBuiltinCall, Z.F.newKind, Z.F.newSplit, Z.F.newRow]
  repeat (first | refine wpAny_loadPart_at cC ?_ | (refine wpAny_isSubtype_exc cC ?_; rw [inB]) | refine wpAny_staticBase_exc cC ?_ | refine wpAny_madeBy_exc cC ?_ | simp only [bne_self_eq_false, Bool.false_eq_true, if_false] | wp_step)
  exact fin
theorem xc_new (Z : Tail B newId initId bmB T) {more : List Value} {kw : List (Str × Value)} (cC : h.get? C = some (excClassObj nm q C N bs T true sn sub ab col dd k0 k1 k2 k3 k5 newId)) (hz : more.length ≤ sizeLine)
    (fin : R (.ok (.ret (.ref (h.objs.size + 1)))) ⟨(h.push { cls := .type "tuple", data := .seq more.toArray }).push { cls := .ref C, data := .fields #[.ref h.objs.size, .none, .none, .none, .bool false, .none] }, g, d, t, os⟩) :
    codeAny (model prog w) A (.builtin newId ⟨.ref C :: more, kw⟩) R ⟨h, g, d, t, os⟩ := by
  have ends := Z.F.ends
  have inB : (Value.ref C :: T).contains (.type B) = true := by rw [List.contains_cons, Z.hB, Bool.or_true]
  have noA : (Value.ref C :: T).contains (.type "AttributeError") = false := by rw [List.contains_cons, Z.hA]; rfl
  have noN : (Value.ref C :: T).contains (.type "NameError") = false := by rw [List.contains_cons, Z.hN]; rfl
  refine codeAny_builtinAt Z.F.entry ?_
  unfold Builtin.«BaseException.__new__»
  refine wpAt_bind ?_
  show wpAt _ _ _ (stack >>= _) _ _ _
  refine wpAt_bind (wpAt_stack fun p below => wpAt_of_wpAny ?_)
  wp_walk
  refine wpAt_of_wpAny ?_
  rw [Z.F.owner]
  repeat (first | with_reducible refine wpAny_madeHere_exc Z.F.canon cC ?_ | with_reducible refine wpAny_loadPart_at cC ?_ | (with_reducible refine wpAny_isSubtype_exc cC ?_; first | rw [inB] | rw [noA] | rw [noN]) | wp_step)
  show R _ _
  rw [Heap.size_push]
  exact fin
theorem xc_type_call (Z : Tail B newId initId bmB T) {more : List Value} {kw : List (Str × Value)} {fI : Addr} {Q : Fin → Shared → Prop} (cC : h.get? C = some (excClassObj nm q C N bs T true sn sub ab col dd k0 k1 k2 k3 k5 newId))
    (li : W.Looks (model prog w) h (typeLookup (.ref C) "__init__") (some (.ref fI))) (lb : ∀ self, W.Looks (model prog w) h (bindSpecial (.ref fI) self) (.ref fI, [self])) (hz : more.length ≤ sizeLine)
    (run : codeAny (model prog w) A (.call (.ref fI) ⟨.ref (h.objs.size + 1) :: more, kw⟩)
      (fun r s' => match r with | .ok (.ret v) => v = .none ∧ Q (.done (.ret (.ref (h.objs.size + 1)))) s' | .ok _ => False | .error e => E e s') ⟨(h.push (W.kdv_tup more)).push (excO C h.objs.size), g, d, t, os⟩) :
    wpAny (model prog w) A (Builtin.«type.__call__» ⟨.ref C :: more, kw⟩) Q E ⟨h, g, d, t, os⟩ := by
  repeat (first | with_reducible refine wpAny_loadPart_at cC ?_ | with_reducible refine wpAny_madeBy_exc cC ?_ | wp_step)
  refine codeAny_call_builtin_code (Code.quiet_builtin _ Z.F.quiet) (xc_check Z cC ?_)
  refine xc_new Z cC hz ?_
  show wpAny _ _ _ _ _ _
  have kk : ∀ b o, h.get? b = some o → ((h.push (W.kdv_tup more)).push (excO C h.objs.size)).get? b = some o := fun b o e => Heap.get?_push_of_some _ (Heap.get?_push_of_some _ e)
  have cC2 := kk _ _ cC
  have at1 : ((h.push (W.kdv_tup more)).push (excO C h.objs.size)).get? (h.objs.size + 1) = some (excO C h.objs.size) := by heap_get
  have self : (Value.ref C :: T).contains (.ref C) = true := by simp
  have l1 := li.keeps kk
  have l2 := (lb (.ref (h.objs.size + 1))).keeps kk
  unfold isInstance
  repeat (first | with_reducible refine wpAny_loadPart_at at1 ?_ | (with_reducible refine wpAny_isSubtype_exc cC2 ?_; rw [self]) | wp_step)
  show wpAny _ _ (typeLookup (.ref C) _) _ _ _
  refine l1.at ?_
  refine wpAny_holding (wpAny_bind (l2.at ?_))
  refine wpAny_bind (wpAny_call (codeAny_mono run fun r s' zz => ?_))
  rcases r with e | (v | _ | _ | _) <;> first | exact zz | exact zz.elim | skip
  obtain ⟨rfl, zz⟩ := zz
  first
    | exact wpAny_pure (wpAny_pure zz)
    | (wp_walk; exact zz)
theorem xc_call (Z : Tail B newId initId bmB T) {more : List Value} {kw : List (Str × Value)} {fI : Addr} (cC : h.get? C = some (excClassObj nm q C N bs T true sn sub ab col dd k0 k1 k2 k3 k5 newId))
    (li : W.Looks (model prog w) h (typeLookup (.ref C) "__init__") (some (.ref fI))) (lb : ∀ self, W.Looks (model prog w) h (bindSpecial (.ref fI) self) (.ref fI, [self])) (hz : more.length ≤ sizeLine)
    (run : codeAny (model prog w) (A.under (.builtin "type.__call__" ⟨.ref C :: more, kw⟩)) (.call (.ref fI) ⟨.ref (h.objs.size + 1) :: more, kw⟩) (W.InitBack (h.objs.size + 1) R)
      ⟨(h.push (W.kdv_tup more)).push (excO C h.objs.size), g, d, t, os⟩) :
    codeAny (model prog w) A (.call (.ref C) ⟨more, kw⟩) R ⟨h, g, d, t, os⟩ := by
  have e1 := tc_lookup
  have e2 := tc_bind (.ref C)
  have isTy : (⟨h, g, d, t, os⟩ : Shared).TypeIs (.ref C) "type" := ⟨_, cC, rfl⟩
  refine codeAny_of_tree ?_
  show wpAny _ _ (callAny (.ref C) _) _ _ _
  repeat (any_goals (first | assumption | with_reducible refine wpAny_loadPart_at cC ?_ | wp_step))
  refine ⟨rfl, ?_⟩
  refine codeAny_call_builtin_at (Code.quiet_builtin _ (by decide +kernel)) entry_typeCall (wpAny_check_type_call_sub cC (xc_type_call Z cC li lb hz ?_))
  refine codeAny_mono run fun r s' zz => ?_
  rcases r with e | (v | _ | _ | _) <;> exact zz
end
section
open Builtin Builtin.ObjectAttr
variable {prog : Program} {w : World} {A : Around} {R : Result → Shared → Prop} {hp : Heap} {g : Array GenState} {d : Drawn} {t : Nat} {os : OsState} {B newId initId : String} {bmB T : List Value}
/-- self.name = v, the first field -/
theorem xc_store1 (Z : Tail B newId initId bmB T) {K : W.Frag} {name nm qn : Str} {tk : Tok} {v : Value} {x C N : Addr} {fv : Array Value} {bs sb : List Value} {sn : List Str} {ab : Bool} {col : Option Bool} {del : Bool}
    (inK : K.In hp) (ox : hp.get? x = some { cls := .ref C, data := .fields fv })
    (cd : W.clsIn K C = some { name := nm, bases := bs, mro := .ref C :: T, ns := N, qualname := qn, hasDict := true, slotNames := sn, subclasses := sb, abstract := ab, collection := col, hasDel := del }) (off : W.findIn K (.ref C) name = some none)
    (fin : ∀ h' tk' dx, (∀ b o, b ≠ x → hp.get? b = some o → h'.get? b = some o) → hp.objs.size ≤ dx → dx ≠ x → h'.get? x = some { cls := .ref C, dict := some dx, data := .fields fv } →
      h'.Ns1 dx (fun y => if y = name then some v else none) → R (.ok (.ret .none)) ⟨h', g, d, tk', os⟩) :
    codeAny (model prog w) A (.call (.builtin "object.__setattr__") ⟨[.ref x, .str name tk, v], []⟩) R ⟨hp, g, d, t, os⟩ := by
  have at0 : W.InstAt hp x { cls := .ref C, data := .fields fv } C none := ⟨ox, rfl, rfl, trivial⟩
  have SF := F.store_object
  have hob : (Value.ref C :: T).contains (.type "object") = true := by rw [List.contains_cons, Z.hO, Bool.or_true]
  have ne : x ≠ hp.objs.size := Nat.ne_of_lt (Heap.lt_size ox)
  have isObj : W.Looks (model prog w) hp (isInstance (.ref x) (.type "object")) true := at0.type.andThen (W.looks_mroIn inK (by unfold W.mroIn; rw [cd, Option.bind_some, if_neg (by simp), hob]))
  refine codeAny_call_builtin SF.slot.plain SF.entry (@W.check_slot (model prog w) _ _ ⟨hp, g, d, t, os⟩ "object.__setattr__" "object" "__setattr__" (.ref x) [.str name tk, v] [] _ SF.kind SF.split isObj (SF.args (.ref x) (.str name tk) v) ?_)
  have l1 : W.Looks (model prog w) hp (mroOf (.ref C)) (.ref C :: T) := (W.looks_clsIn inK cd).andThen .now
  have l2 : W.Looks (model prog w) hp (storeTaker? none) none := .now
  have l3 := W.looks_clsIn (M := model prog w) inK cd
  rw [W.osa_eq, refuse_eq]
  refine wpAny_bind (wpAny_bind (at0.type.at (wpAny_bind (l1.at ?_))))
  rw [refuseLoop_ref, Z.pass]
  refine wpAny_pure (wpAny_bind (at0.type.at (wpAny_bind ((W.looks_findIn inK off).at (wpAny_bind (l2.at ?_))))))
  show wpAny _ _ (storeInOwnDict (.ref x) (.ref C) (.str name tk) name v false) _ _ _
  unfold storeInOwnDict ownDictForStores
  repeat (first | with_reducible refine store_in_new ?_ ?_ | with_reducible refine wpAny_loadPart_at ox ?_ | with_reducible refine l3.at ?_ | wp_step)
  · exact ⟨_, #[], _, (Heap.get?_update_ne _ _ _ _ ne.symm).trans (Heap.get?_push_at rfl rfl), rfl, fun e he => absurd he (by simp), fun _ => rfl⟩
  · intro h' tk' hn' same
    have ox2 : (hp.push { cls := .type "dict", data := .dict #[] }).get? x = some { cls := .ref C, data := .fields fv } := Heap.get?_push_of_some _ ox
    refine fin h' tk' hp.objs.size (fun b o hb ho => ?_) (Nat.le_refl _) ne.symm ?_ hn'
    · exact (same.2 b (Nat.ne_of_lt (Heap.lt_size ho))).trans ((Heap.get?_update_ne _ _ _ _ hb).trans (Heap.get?_push_of_some _ ho))
    · exact (same.2 x ne).trans (Heap.get?_update_self _ ox2 rfl)
/-- a further field -/
theorem xc_store2 (Z : Tail B newId initId bmB T) {K : W.Frag} {name nm qn : Str} {tk : Tok} {v : Value} {x C N dx : Addr} {fv : Array Value} {bs sb : List Value} {sn nl : List Str} {ab : Bool} {col : Option Bool} {del : Bool} {m0 : Str → Option Value}
    (inK : K.In hp) (ox : hp.get? x = some { cls := .ref C, dict := some dx, data := .fields fv }) (hns : hp.Ns1 dx m0) (hw : Within m0 nl) (hz : nl.length ≤ 1000)
    (cd : W.clsIn K C = some { name := nm, bases := bs, mro := .ref C :: T, ns := N, qualname := qn, hasDict := true, slotNames := sn, subclasses := sb, abstract := ab, collection := col, hasDel := del }) (off : W.findIn K (.ref C) name = some none)
    (fin : ∀ h' tk', (∀ b o, b ≠ dx → hp.get? b = some o → h'.get? b = some o) → h'.Ns1 dx (fun y => if y = name then some v else m0 y) → R (.ok (.ret .none)) ⟨h', g, d, tk', os⟩) :
    codeAny (model prog w) A (.call (.builtin "object.__setattr__") ⟨[.ref x, .str name tk, v], []⟩) R ⟨hp, g, d, t, os⟩ := by
  obtain ⟨oD, esD, epD, hoD, hdD, _⟩ := hns.count hw
  have at0 : W.InstAt hp x { cls := .ref C, dict := some dx, data := .fields fv } C (some oD) := ⟨ox, rfl, rfl, hoD⟩
  have SF := F.store_object
  have hob : (Value.ref C :: T).contains (.type "object") = true := by rw [List.contains_cons, Z.hO, Bool.or_true]
  have isObj : W.Looks (model prog w) hp (isInstance (.ref x) (.type "object")) true := at0.type.andThen (W.looks_mroIn inK (by unfold W.mroIn; rw [cd, Option.bind_some, if_neg (by simp), hob]))
  refine codeAny_call_builtin SF.slot.plain SF.entry (@W.check_slot (model prog w) _ _ ⟨hp, g, d, t, os⟩ "object.__setattr__" "object" "__setattr__" (.ref x) [.str name tk, v] [] _ SF.kind SF.split isObj (SF.args (.ref x) (.str name tk) v) ?_)
  have l1 : W.Looks (model prog w) hp (mroOf (.ref C)) (.ref C :: T) := (W.looks_clsIn inK cd).andThen .now
  have l2 : W.Looks (model prog w) hp (storeTaker? none) none := .now
  have l3 := W.looks_clsIn (M := model prog w) inK cd
  rw [W.osa_eq, refuse_eq]
  refine wpAny_bind (wpAny_bind (at0.type.at (wpAny_bind (l1.at ?_))))
  rw [refuseLoop_ref, Z.pass]
  refine wpAny_pure (wpAny_bind (at0.type.at (wpAny_bind ((W.looks_findIn inK off).at (wpAny_bind (l2.at ?_))))))
  show wpAny _ _ (storeInOwnDict (.ref x) (.ref C) (.str name tk) name v false) _ _ _
  unfold storeInOwnDict ownDictForStores
  repeat (first | with_reducible refine OEX.store_in_old hns hw hz ?_ | with_reducible refine wpAny_loadPart_at ox ?_ | with_reducible refine l3.at ?_ | wp_step)
  intro h' tk' hn' same
  exact fin h' tk' (fun b o hb ho => (same.2 b hb).trans ho) hn'
end
end WX
end PySem

namespace Wd
open PySem PySem.Spec PyProof.Rows L2
/-- what the written part says of an own error class at C (fields' names never found on the class) -/
structure Xc (K : PySem.W.Frag) (C : Addr) (B newId initId : String) (bmB T : List Value) : Prop where
  Z : PySem.WX.Tail B newId initId bmB T
  cls : ∃ nm q N bs sn sub ab col dd k0 k1 k2 k3 k5, K.lookup C = some (excClassObj nm q C N bs T true sn sub ab col dd k0 k1 k2 k3 k5 newId)
  sa : PySem.W.findIn K (.ref C) "__setattr__" = some (some (.builtin "object.__setattr__"))
  ga : PySem.W.findIn K (.ref C) "__getattribute__" = some (some (.builtin "BaseException.__getattribute__"))
  gg : PySem.W.findIn K (.ref C) "__getattr__" = some none
  exC : PySem.W.subIn K (.ref C) (.type "BaseException") = some true
  tyC : PySem.W.typeIn K (.ref C) = some (.type "type")
  kC : PySem.W.keepIn K (.ref C) = true
theorem Xc.cd {K : PySem.W.Frag} {C : Addr} {B newId initId : String} {bmB T : List Value} (c : Xc K C B newId initId bmB T) :
    ∃ nm bs N q sn sub ab col, PySem.W.clsIn K C = some { name := nm, bases := bs, mro := .ref C :: T, ns := N, qualname := q, hasDict := true, slotNames := sn, subclasses := sub, abstract := ab, collection := col, hasDel := false } := by
  obtain ⟨nm, q, N, bs, sn, sub, ab, col, dd, k0, k1, k2, k3, k5, hC⟩ := c.cls
  exact ⟨nm, bs, N, q, sn, sub, ab, col, by unfold PySem.W.clsIn; rw [hC] <;> rfl⟩
section
variable {X : Cx} {pins : List (Addr × Obj)} {σ : L2.St} {H : Hp} {s : Shared} {a C dx : Addr} {f : Str} {y : V} {u : Value} {fs : List (Str × V)} {Q : Unit → Shared → Prop} {E : Value → Shared → Prop} {A : Around} {B newId initId : String} {bmB T : List Value}
theorem xst_new (c : Xc X.K C B newId initId bmB T) (I : Inv X pins σ H s) (e : H a = some (exo a C none)) (off : PySem.W.findIn X.K (.ref C) f = some none) (ry : RelV y u)
    (k : ∀ dx s', H dx = none → dx ≠ a → Inv X pins σ (upd (upd H dx (exd dx [(f, y)])) a (exo a C (some dx))) s' → Q () s') : wpAny (model X.prog X.w) A (setAttr (.ref a) f u) Q E s := by
  obtain ⟨nm, bs, N, q, sn, sub, ab, col, cd⟩ := c.cd
  obtain ⟨t1, ho⟩ := exo_at I.hok e
  obtain ⟨hp, g, d, t, os⟩ := s
  refine PySem.W.set_plain I.kIn (ox := { cls := .ref C, dict := none, data := .fields #[.ref t1, .none, .none, .none, .bool false, .none] }) (od := none) ⟨ho, rfl, rfl, trivial⟩ c.sa ?_
  refine PySem.WX.xc_store1 c.Z I.kIn ho cd off (fun h' tk' dx kp dn dne hx hn => ?_)
  have free : H dx = none := I.hok.fresh dn
  have old : ∀ {b : Addr} {o : Obj}, hp.get? b = some o → b ≠ dx := fun {b o} z => Nat.ne_of_lt (Nat.lt_of_lt_of_le (Heap.lt_size z) dn)
  have na : ∀ {b : Addr}, H b = none → b ≠ a := fun {b} n z => by
    rw [z, e] at n
    cases n
  have U : Un X.fs [] H (upd (upd H dx (exd dx [(f, y)])) a (exo a C (some dx))) hp h' := {
    keep := fun b o z n _ _ => kp b o (na n) z
    slot := fun b o z n _ _ => ⟨o.slots, kp b o (na n) z⟩
    free := fun b o z n _ => by
      rw [upd_ne (na n), upd_ne (old z)]
      exact n
    there := fun b o z _ => by
      by_cases hb : b = a
      · exact ⟨_, by rw [hb]; exact hx⟩
      · exact ⟨o, kp b o hb z⟩
    tups := fun b xs z => by
      rw [upd_ne (at_ne e z exo_tup), upd_ne (ne_of_none z free)]
      exact z
    frzs := fun b o v z => by
      rw [upd_ne (at_ne e z exo_frz), upd_ne (ne_of_none z free)]
      exact z
    tbls := fun b ps z => ⟨#[], by rw [upd_ne (at_ne e z exo_tbl), upd_ne (ne_of_none z free), z]; simp⟩ }
  refine k dx _ free dne (I.un (t' := tk') U fun b o z => ?_)
  by_cases hb : b = a
  · subst hb
    rw [upd_same] at z
    cases z
    exact exo_ok hx
  · rw [upd_ne hb] at z
    by_cases hd : b = dx
    · subst hd
      rw [upd_same] at z
      cases z
      exact exd_ok hn (relO_put (fs := []) ry fun g => True.intro)
    · rw [upd_ne hd] at z
      refine (I.hok b o z).stay (fun c' v hc zz => kp c' v ?_ zz) (fun c' hc => ?_) (fun c' xs hc => ?_)
      · rcases hc with hc | hc
        · rw [hc]
          exact hb
        · exact at_ne e hc exo_own
      · rw [upd_ne (at_ne e hc exo_own), upd_ne (ne_of_none hc free)]
        exact hc
      · rw [upd_ne (at_ne e hc exo_tup), upd_ne (ne_of_none hc free)]
        exact hc
theorem xst_old (c : Xc X.K C B newId initId bmB T) (I : Inv X pins σ H s) (e : H a = some (exo a C (some dx))) (ed : H dx = some (exd dx fs)) (hl : fs.length ≤ 900) (off : PySem.W.findIn X.K (.ref C) f = some none) (ry : RelV y u)
    (k : ∀ s', Inv X pins σ (upd H dx (exd dx ((f, y) :: fs))) s' → Q () s') : wpAny (model X.prog X.w) A (setAttr (.ref a) f u) Q E s := by
  obtain ⟨nm, bs, N, q, sn, sub, ab, col, cd⟩ := c.cd
  obtain ⟨t1, ho⟩ := exo_at I.hok e
  obtain ⟨mA, hns, rel⟩ := exd_at I.hok ed
  have hw := within_of rel
  obtain ⟨hp, g, d, t, os⟩ := s
  obtain ⟨oD, _, _, hoD, _, _⟩ := hns.count hw
  refine PySem.W.set_plain I.kIn (ox := { cls := .ref C, dict := some dx, data := .fields #[.ref t1, .none, .none, .none, .bool false, .none] }) (od := some oD) ⟨ho, rfl, rfl, hoD⟩ c.sa ?_
  refine PySem.WX.xc_store2 c.Z I.kIn ho hns hw (by rw [List.length_map]; omega) cd off (fun h' tk' kp hn => ?_)
  have there : ∃ o, h'.get? dx = some o := by
    obtain ⟨o, _, _, e', _⟩ := hn
    exact ⟨o, e'⟩
  exact k _ (I.write (t' := tk') (x := dx) (e := dx) (o := exd dx ((f, y) :: fs)) (by rw [ed]; exact True.intro) (.inl rfl) kp there (exd_ok hn (relO_put ry rel)))
/-- self.f = e within an own error's __init__ -/
def tXst (K : PySem.W.Frag) (f : Str) (to te : TE) : TS := fun D σ H => te σ H fun y H1 => to σ H1 fun x H2 => ∃ (a C : Addr) (B newId initId : String) (bmB T : List Value), x = .ref a ∧ Xc K C B newId initId bmB T ∧ PySem.W.findIn K (.ref C) f = some none ∧
  ((H2 a = some (exo a C none) ∧ ∀ dx, H2 dx = none → dx ≠ a → D.nx σ (upd (upd H2 dx (exd dx [(f, y)])) a (exo a C (some dx)))) ∨
    ∃ (dx : Addr) (fs : List (Str × V)), H2 a = some (exo a C (some dx)) ∧ H2 dx = some (exd dx fs) ∧ fs.length ≤ 900 ∧ D.nx σ (upd H2 dx (exd dx ((f, y) :: fs))))
theorem ps_xst {o e : Expr} {to te : TE} {p' pos : Pos} (ho : PE X o to) (he : PE X e te) (hs : swapsWith e (some (.Attribute o f p')) pos.line X.env = pure false := by rfl) : PS X (.Assign [.Attribute o f p'] e pos) (tXst X.K f to te) := by
  refine ⟨fun pins s σ H D I h => ?_⟩
  refine plainObj_wpAny_Assign_Attribute (thn (he.run pins s σ H _ I h) fun v s1 ⟨y, H1, I1, r1, q1⟩ => thn (ho.run pins s1 σ H1 _ I1 q1) fun u s2 ⟨x, H2, I2, r2, a, C, B, newId, initId, bmB, T, ex, c, off, q⟩ => ?_) hs
  subst ex
  obtain rfl : u = Value.ref a := r2
  rcases q with ⟨ea, q⟩ | ⟨dx, fs, ea, ed, hl, q⟩
  · exact xst_new c I2 ea off r1 fun dx s' n ne J => ⟨σ, _, J, q dx n ne⟩
  · exact xst_old c I2 ea ed hl off r1 fun s' J => ⟨σ, _, J, q⟩
end

/-- C(e, .., k = v, ..) of an own error class with an __init__ -/
def tXmake (C : Addr) (n m : Nat) (sp : Sp) (gV : List V → List V → List V) (t tk : TA) : TE := fun σ H Q => t σ H fun vs H1 => tk σ H1 fun zs H2 => vs.length = n ∧ zs.length = m ∧
  ∀ a, H2 a = none → sp (gV (.ref a :: vs) zs) (upd H2 a (exo a C none)) (fun v H3 => v = .non ∧ Q (.ref a) H3) E0
section
variable {X : Cx} {k n : Nat} {fI C : Addr} {fd : FuncData} {ps ks : List Str} {sp : Sp} {x : Str} {p pos : Pos} {e : Expr} {es : List Expr} {kws : List Keyword} {t tk : TA} {g : List Value → List Value → List Value} {gV : List V → List V → List V} {B newId initId : String} {bmB T : List Value}
theorem run_xmake {pins : List (Addr × Obj)} {σ : L2.St} {H : Hp} {s : Shared} {Q : VK} {us ws : List Value} {vs zs : List V} (c : Xc X.K C B newId initId bmB T) (iC : PySem.W.findIn X.K (.ref C) "__init__" = some (some (.ref fI)))
    (tI : PySem.W.typeIn X.K (.ref fI) = some (.type "function")) (F : FnOk X.prog X.w X.K X.mg X.base CX0 k fI fd ps sp) (hr : Room (k + 1) X.A) (hb : KBn X.K fd ps (n + 1) ks g gV) (I : Inv X pins σ H s) (r : Vals vs us) (rz : Vals zs ws)
    (l1 : vs.length = n) (l2 : zs.length = ks.length) (hn : n ≤ 1000) (h : ∀ a, H a = none → sp (gV (.ref a :: vs) zs) (upd H a (exo a C none)) (fun v H3 => v = .non ∧ Q (.ref a) H3) E0) :
    wpAny (model X.prog X.w) X.A (call (.ref C) us (ks.zip ws)) (EP X pins σ Q) X.xe s := by
  obtain ⟨nm, q, N, bs, sn, sub, ab, col, dd, k0, k1, k2, k3, k5, hC⟩ := c.cls
  obtain ⟨hp, gn, dr, tk0, os⟩ := s
  have up : hp.objs.size ≤ hp.objs.size + 1 := Nat.le_succ _
  have hq := h (hp.objs.size + 1) (I.hok.fresh up)
  have kk : ∀ b o, hp.get? b = some o → ((hp.push (PySem.W.kdv_tup us)).push (PySem.HandSPX.excO C hp.objs.size)).get? b = some o := fun b o e => Heap.get?_push_of_some _ (Heap.get?_push_of_some _ e)
  have at1 : ((hp.push (PySem.W.kdv_tup us)).push (PySem.HandSPX.excO C hp.objs.size)).get? (hp.objs.size + 1) = some (PySem.HandSPX.excO C hp.objs.size) := by heap_get
  have J : Inv X pins σ (upd H (hp.objs.size + 1) (exo (hp.objs.size + 1) C none)) ⟨(hp.push (PySem.W.kdv_tup us)).push (PySem.HandSPX.excO C hp.objs.size), gn, dr, tk0, os⟩ :=
    I.laid (t' := tk0) (a := hp.objs.size + 1) (o := exo (hp.objs.size + 1) C none) (h' := (hp.push (PySem.W.kdv_tup us)).push (PySem.HandSPX.excO C hp.objs.size)) kk up (exo_ok at1)
  have r1 : Vals (V.ref (hp.objs.size + 1) :: vs) (Value.ref (hp.objs.size + 1) :: us) := .cons rfl r
  have r2 := hb.rel r1 rz
  have e1 : (Value.ref (hp.objs.size + 1) :: us).length = n + 1 := r1.length.symm.trans (congrArg Nat.succ l1)
  have e2 : ws.length = ks.length := rz.length.symm.trans l2
  have hus : us.length ≤ sizeLine := by
    rw [← Paired.length r, sizeLine_eq]
    omega
  refine wpAny_call (PySem.WX.xc_call c.Z (I.kIn _ _ hC) (PySem.W.looks_findIn I.kIn iC) (fun self => PySem.W.bind_fn I.kIn self tI) hus
    (codeAny_mono (F.run _ X.stack _ _ ⟨Value.ref (hp.objs.size + 1) :: us, ks.zip ws⟩ (g (Value.ref (hp.objs.size + 1) :: us) ws) _ _ E0 (hr.make C us (ks.zip ws)) (J.env0.make C us (ks.zip ws)) (hb.to _ (Value.ref (hp.objs.size + 1) :: us) ws J.kIn e1 e2) r2 hq) fun rr z hq' => ?_))
  match rr, hq' with
  | .error e, hq' => exact pass0 pins σ _ _ e z J hq'
  | .ok (.ret u), hq' =>
    obtain ⟨v, H', J3, rv, ev, q3⟩ := J.after hq'
    subst ev
    exact ⟨rv, V.ref (hp.objs.size + 1), H', J3, rfl, q3⟩
  | .ok .next, hq' => exact False.elim hq'
  | .ok .brk, hq' => exact False.elim hq'
  | .ok .cont, hq' => exact False.elim hq'
theorem pe_xmake (c : Xc X.K C B newId initId bmB T) (iC : PySem.W.findIn X.K (.ref C) "__init__" = some (some (.ref fI))) (tI : PySem.W.typeIn X.K (.ref fI) = some (.type "function")) (F : FnOk X.prog X.w X.K X.mg X.base CX0 k fI fd ps sp) (hr : Room (k + 1) X.A)
    (hb : KBn X.K fd ps (n + 1) [] g gV) (hn : n ≤ 1000) (hg : Gl X x) (hm : X.mg x = some (.ref C)) (ha : PA X (e :: es) t) (hdb : (x == ("__debug__" : Str)) = false := by decide)
    (he : starEach (e :: es) X.env = (false, eval e X.env) :: starEach es X.env := by rfl) (hpl : (backTo pos (starEach es X.env)).any (·.1) = false := by rfl) :
    PE X (.Call (.Name x p) (e :: es) [] pos) (tXmake C n 0 sp gV t tNil) := by
  refine ⟨fun pins s σ H Q I h => ?_⟩
  refine wpAny_Call_Name_kw (ld_glob I hg hm ?_ hdb)
  refine PySem.W.callWith_K (h₀ := X.base) I.ok.mod.kin c.kC (thn (ha.run pos pins s σ H _ I h) fun us s1 ⟨vs, H1, I1, r, l1, _, q⟩ => ⟨I1.kIn, ?_⟩) he hpl
  exact run_xmake (ks := []) (ws := []) (zs := []) c iC tI F hr hb I1 r .nil l1 rfl hn q
theorem pe_xmakeK (c : Xc X.K C B newId initId bmB T) (iC : PySem.W.findIn X.K (.ref C) "__init__" = some (some (.ref fI))) (tI : PySem.W.typeIn X.K (.ref fI) = some (.type "function")) (F : FnOk X.prog X.w X.K X.mg X.base CX0 k fI fd ps sp) (hr : Room (k + 1) X.A)
    (hb : KBn X.K fd ps 1 ks g gV) (hg : Gl X x) (hm : X.mg x = some (.ref C)) (hkw : PK X kws tk) (hdb : (x == ("__debug__" : Str)) = false := by decide) (hall : (backToKw pos (keywordEach kws X.env)).all (·.1.isSome) = true := by rfl)
    (hks : (backToKw pos (keywordEach kws X.env)).filterMap (·.1) = ks := by rfl) (hpl : ((backTo pos (starEach [] X.env)).any (·.1) || (backToKw pos (keywordEach kws X.env)).any (·.1.isNone)) = false := by rfl) :
    PE X (.Call (.Name x p) [] kws pos) (tXmake C 0 ks.length sp gV tNil tk) := by
  refine ⟨fun pins s σ H Q I h => ?_⟩
  refine wpAny_Call_Name_kw (ld_glob I hg hm ?_ hdb)
  refine PySem.W.callWith_KW0 (h₀ := X.base) I.ok.mod.kin c.kC hall ?_ hpl
  refine thn (hkw.run pos pins s σ H _ I h) fun ws s2 ⟨zs, H2, I2, rz, _, l2, q2⟩ => ⟨I2.kIn, ?_⟩
  rw [hks]
  exact run_xmake (n := 0) (vs := []) (us := []) c iC tI F hr hb I2 .nil rz rfl l2 (by decide) q2
end
end Wd
namespace PySem.W
open PySem PySem.Spec PySem.Calls PyProof.Rows
section
variable {prog : Program} {w : World} {A : Around} {E : Value → Shared → Prop} {s : Shared} {K : Frag} {x D : Addr} {ox : Obj} {od : Option Obj}
theorem xfind_cls {g a : Value} {nm : Str} (hc : (clsIn K D).isSome = true) (f1 : findIn K (.ref D) nm = some (some a)) (f2 : specialIn K a "__get__" = some (some g)) (f3 : takesIn K a = some true) : findObj K D od nm = some (.bind g a) := by
  obtain ⟨cd, hc⟩ := Option.isSome_iff_exists.mp hc
  unfold findObj
  rw [hc, Option.bind_some, f1, Option.bind_some]
  cases od <;> simp [f2, f3]
end
end PySem.W

set_option Elab.async false
set_option linter.all false
set_option maxRecDepth 100000
set_option maxHeartbeats 4000000
/-! Tracked exceptions: their fields read, isinstance of them, such without an __init__ made. -/
namespace PySem.W
open PySem PySem.Spec PySem.Calls PyProof.Rows
section
variable {prog : Program} {w : World} {A : Around} {E : Value → Shared → Prop} {s : Shared} {K : Frag} {x D : Addr} {ox : Obj} {od : Option Obj}
/-- what the class at D says so that its instances may be asked by isinstance -/
structure XIs (K : Frag) (D : Addr) : Prop where
  hga : findIn K (.ref D) "__getattribute__" = some (some (.builtin "BaseException.__getattribute__"))
  hgt : findIn K (.ref D) "__getattr__" = some none
  hsub : subIn K (.ref D) (.type "BaseException") = some true
  hdct : hasDictIn K D = true
  ha : findIn K (.ref D) "__class__" = some (some (.builtin "object.__class__"))
  hn : specialIn K (.builtin "object.__class__") "__get__" = some (some (.builtin "getset_descriptor.__get__"))
  htk : takesIn K (.builtin "object.__class__") = some true
  hm : mroIn K D (.type "object") = some true
theorem x_class {Q : Option Value → Shared → Prop} (Z : XIs K D) (inK : K.In s.heap) (I : InstAt s.heap x ox D od) (fin : Q (some (.ref D)) { s with toks := s.toks + 1 }) : wpAny (model prog w) A (getAttr? (.ref x) "__class__") Q E s := by
  have found : findObj K D od "__class__" = some (.bind (.builtin "getset_descriptor.__get__") (.builtin "object.__class__")) := xfind_cls (by obtain ⟨cd, hc, _⟩ := any_some Z.hdct; rw [hc]; rfl) Z.ha Z.hn Z.htk
  obtain ⟨hp, g, d, t, os⟩ := s
  have l0 := I.type (M := model prog w)
  have l1 := looks_findIn (M := model prog w) inK Z.hga
  have l2 := looks_findIn (M := model prog w) inK Z.hgt
  have l3 := looks_find (M := model prog w) inK I found
  have isB : Looks (model prog w) hp (isInstance (.ref x) (.type "BaseException")) true := l0.andThen (looks_subIn inK Z.hsub)
  have q0 : (false && onTheHeap (Value.builtin "BaseException.__getattribute__")) = false := rfl
  have q2 : (Value.builtin "BaseException.__getattribute__" == Value.builtin "object.__getattribute__") = false := by decide +kernel
  have q1 : (onTheHeap (Value.ref D) && Value.builtin "BaseException.__getattribute__" == Value.builtin "object.__getattribute__") = false := by rw [q2]; rfl
  unfold getAttr? getAttrBy? getAttrBy
  refine wpAny_bind (wpAny_mkText (wpAny_bind (wpAny_attempt (wpAny_holding (wpAny_bind (l0.at (wpAny_bind (l1.at ?_))))))))
  show wpAny _ _ (if (onTheHeap (Value.ref D) && Value.builtin "BaseException.__getattribute__" == Value.builtin "object.__getattribute__") = true then _ else _) _ _ _
  rw [q1, if_neg Bool.false_ne_true]
  unfold getAttrByItsOwn hookBefore
  refine wpAny_bind ?_
  rw [if_pos (show onTheHeap (Value.ref D) = true from rfl)]
  refine l2.at ?_
  refine wpAny_bind (wpAny_attempt (wpAny_holding ?_))
  unfold callGetattribute
  rw [q0, if_neg Bool.false_ne_true]
  unfold boundAndCalled
  rw [PySem.F.excAttr_ValueError.ga.bind (.ref x)]
  refine wpAny_bind (wpAny_pure ?_)
  show wpAny _ _ (call (.builtin "BaseException.__getattribute__") [.ref x, .str "__class__" t]) _ _ _
  refine wpAny_call (codeAny_call_builtin PySem.F.excAttr_ValueError.ga.plain PySem.F.entry_bexc_ga ?_)
  refine @check_slot (model prog w) _ _ ⟨hp, g, d, t + 1, os⟩ "BaseException.__getattribute__" "BaseException" "__getattribute__" (.ref x) [.str "__class__" t] [] _ (by decide +kernel) (by decide +kernel) isB (PySem.F.args_bexc_ga (.ref x) (.str "__class__" t)) ?_
  unfold Builtin.«object.__getattribute__»
  refine wpAny_bind (wpAny_of_eq (a := ((Value.ref x : Value), [Value.str "__class__" t])) (by first | rfl | (simp only [slotArgs]; rfl)) ?_)
  refine wpAny_bind (wpAny_pure (wpAny_bind (l0.at (wpAny_bind (l3.at ?_)))))
  show wpAny _ _ (holding [Value.builtin "object.__class__"] (call (.builtin "getset_descriptor.__get__") [.builtin "object.__class__", .ref x, .ref D]) >>= ret) _ _ _
  refine wpAny_bind (wpAny_holding (wpAny_call (class_get (s := ⟨hp, g, d, t + 1, os⟩) (ox := ox) (od := od) inK I Z.hm ?_)))
  refine wpAny_pure ?_
  show wpAny _ _ (handedOut (.ref D)) _ _ _
  rw [handedOut_of (v := .ref D) rfl]
  first
    | exact wpAny_pure (wpAny_pure fin)
    | exact wpAny_pure fin
    | exact wpAny_pure (wpAny_bind (wpAny_pure (wpAny_pure fin)))
theorem x_kit (Z : XIs K D) : KitX K (.ref x) (.ref D) (fun h => ∃ ox od, InstAt h x ox D od) where
  ty := fun _ _ _ ⟨_, _, I⟩ => I.type
  it := fun _ _ inK _ => by
    obtain ⟨cdD, hcD, _⟩ := any_some Z.hdct
    unfold clsIn at hcD
    split at hcD
    · rename_i c' d' cd' sl' ho
      intro A' Q' E' s' k q
      unfold isType loadHead
      exact wpAny_bind (wpAny_loadPart (k _ _ (inK _ _ ho)) (wpAny_pure q))
    · cases hcD
  ne := fun h tp dd its n sl inK htp => by
    obtain ⟨cdD, hcD, _⟩ := any_some Z.hdct
    refine Bool.eq_false_iff.mpr fun q => ?_
    have e : D = tp := Value.ref.inj (beq_iff_eq.mp q)
    subst e
    unfold clsIn at hcD
    split at hcD
    · rename_i c' d' cd' sl' ho
      have z := (inK _ _ ho).symm.trans htp
      cases z
    · cases hcD
  ca := fun inK ⟨_, _, I⟩ k => x_class Z inK I k
end
end PySem.W
namespace Wd
open PySem PySem.Spec PyProof.Rows L2
/-- a caught exception that is kept -/
def exk (a C : Addr) (d : Option Addr) : HO := .ext fun h => ∃ (oe : Obj) (vs : Array Value), h.get? a = some oe ∧ oe.cls = .ref C ∧ oe.dict = d ∧ oe.data = .fields vs
theorem exk_ok {P : Program} {w : World} {H : Hp} {h : Heap} {a C : Addr} {d : Option Addr} {oe : Obj} {vs : Array Value} (e : h.get? a = some oe) (c : oe.cls = .ref C) (dd : oe.dict = d) (f : oe.data = .fields vs) : ObjOk P w H h a (exk a C d) :=
  ⟨⟨oe, vs, e, c, dd, f⟩, ⟨oe, e⟩, fun _ _ ⟨o, v, q, r⟩ k => ⟨o, v, k o q, r⟩⟩
/-- at a: an exception of the class at C, its dict d -/
def ExAt (H : Hp) (a C : Addr) (d : Option Addr) : Prop := H a = some (exo a C d) ∨ H a = some (exk a C d) ∨ (d = none ∧ H a = some (ExO (.ref C) a))
def ExD (H : Hp) (dx : Addr) (fs : List (Str × V)) : Prop := H dx = some (exd dx fs) ∨ H dx = some (.xd fs)
theorem ExAt.get {P : Program} {w : World} {H : Hp} {h : Heap} {a C : Addr} {d : Option Addr} (x : ExAt H a C d) (ok : HOk P w H h) : ∃ (oe : Obj) (vs : Array Value), h.get? a = some oe ∧ oe.cls = .ref C ∧ oe.dict = d ∧ oe.data = .fields vs := by
  rcases x with x | x | ⟨rfl, x⟩
  · obtain ⟨t1, e⟩ := exo_at ok x
    exact ⟨_, _, e, rfl, rfl, rfl⟩
  · have z : ObjOk P w H h a (.ext _) := ok a _ x
    exact z.1
  · have z : ObjOk P w H h a (.ext _) := ok a _ x
    obtain ⟨oe, vs, e, zc, dd, _⟩ := z.1
    exact ⟨oe, vs, e, zc.1, zc.2, dd⟩
theorem ExD.get {P : Program} {w : World} {H : Hp} {h : Heap} {dx : Addr} {fs : List (Str × V)} (x : ExD H dx fs) (ok : HOk P w H h) : ∃ mA, h.Ns1 dx mA ∧ ∀ f, RelO (fs.lookup f) (mA f) := by
  rcases x with x | x
  · exact exd_at ok x
  · exact ok dx _ x
def ExF (H : Hp) (d : Option Addr) : Prop := d = none ∨ ∃ dx fs, d = some dx ∧ ExD H dx fs
section
variable {X : Cx} {pins : List (Addr × Obj)} {σ : L2.St} {H : Hp} {s : Shared}
theorem inst_of {a C : Addr} {d : Option Addr} (I : Inv X pins σ H s) (x : ExAt H a C d) (f : ExF H d) : ∃ ox od, PySem.W.InstAt s.heap a ox C od := by
  obtain ⟨oe, vs, e, c, dd, dt⟩ := x.get I.hok
  rcases f with rfl | ⟨dx, fs, rfl, y⟩
  · exact ⟨oe, none, e, c, by unfold PySem.W.notCls; rw [dt] <;> rfl, by rw [dd]; exact True.intro⟩
  · obtain ⟨mA, hns, _⟩ := y.get I.hok
    obtain ⟨od, ho, _⟩ := lookIn_ns hns
    exact ⟨oe, some od, e, c, by unfold PySem.W.notCls; rw [dt] <;> rfl, by rw [dd]; exact ho⟩
end
/-- isinstance(e, C), e a tracked exception -/
def rIsX (K : PySem.W.Frag) : List V → Hp → VK → Prop := fun xs H Q => ∃ (a C : Addr) (d : Option Addr) (c : V) (u : Value) (b : Bool), xs = [.ref a, c] ∧ PySem.W.XIs K C ∧ ExAt H a C d ∧ ExF H d ∧ ClsV c u ∧ PySem.W.kitOne K (.ref C) u = some b ∧ Q (.bl b) H
def rIsXT (K : PySem.W.Frag) : List V → Hp → VK → Prop := fun xs H Q => ∃ (a C : Addr) (d : Option Addr) (tp : Addr) (cs : List V) (us : List Value) (b : Bool), xs = [.ref a, .ref tp] ∧ H tp = some (.tup cs) ∧ Paired ClsV cs us ∧ PySem.W.XIs K C ∧ ExAt H a C d ∧ ExF H d ∧
  PySem.W.kitAny K (.ref C) us = some b ∧ Q (.bl b) H
/-- e.f, e a tracked exception -/
def tXattr (K : PySem.W.Frag) (te : TE) (n : Str) : TE := fun σ H Q => te σ H fun x H1 => ∃ (a C dx : Addr) (fs : List (Str × V)) (v : V), x = .ref a ∧ PySem.W.XIs K C ∧ ExAt H1 a C (some dx) ∧ ExD H1 dx fs ∧ PySem.W.findIn K (.ref C) n = some none ∧ fs.lookup n = some v ∧ Q v H1
section
variable {X : Cx}
theorem call_isX : CallR X (.builtin "isinstance") (rIsX X.K) := by
  intro pins s σ H xs us Q I r h
  obtain ⟨a, C, d, c, u, b, rfl, Z, x, f, k, e, q⟩ := h
  obtain ⟨u1, u2, rfl, r1, r2⟩ := vals2 r
  have e2 := k.eq r2
  subst e2
  cases (show u1 = Value.ref a from r1)
  exact PySem.W.kia_one (PySem.W.x_kit Z) I.kIn (inst_of I x f) e (fun z => nomatch z) fun tk => ⟨.bl b, H, I.tok tk, rfl, q⟩
theorem call_isXT : CallR X (.builtin "isinstance") (rIsXT X.K) := by
  intro pins s σ H xs us Q I r h
  obtain ⟨a, C, d, tp, cs, ws, b, rfl, hT, k, Z, x, f, e, q⟩ := h
  obtain ⟨u1, u2, rfl, r1, r2⟩ := vals2 r
  cases (show u2 = Value.ref tp from r2)
  cases (show u1 = Value.ref a from r1)
  obtain ⟨_, its, rv, o, h1, h2, n, h3⟩ := (show ObjOk X.prog X.w H s.heap tp (.tup cs) from I.hok tp _ hT)
  have e3 := ClsV.all k rv
  subst e3
  obtain ⟨oc, od, dt, sl⟩ := o
  simp only at h2 h3
  subst h2 h3
  exact PySem.W.kia_tup (PySem.W.x_kit Z) I.kIn (inst_of I x f) h1 e (fun z => nomatch z) fun tk => ⟨.bl b, H, I.tok tk, rfl, q⟩
/-- isinstance of anything that is told, by one class or a tuple of them -/
def rIsAny (K : PySem.W.Frag) : List V → Hp → VK → Prop := fun xs H Q => (rIsX K xs H Q ∨ rIsXT K xs H Q) ∨ (rIsi K xs H Q ∨ rIsiT K xs H Q)
theorem call_isAny : CallR X (.builtin "isinstance") (rIsAny X.K) := by
  intro pins s σ H xs us Q I r h
  rcases h with (h | h) | (h | h)
  · exact call_isX pins s σ H xs us Q I r h
  · exact call_isXT pins s σ H xs us Q I r h
  · exact call_isi pins s σ H xs us Q I r h
  · exact call_isiT pins s σ H xs us Q I r h
theorem pe_xattr {e : Expr} {te : TE} {n : Str} {pos : Pos} (he : PE X e te) (hb : attributeBase e n X.env (eval e X.env) = eval e X.env := by rfl) : PE X (.Attribute e n pos) (tXattr X.K te n) := by
  refine ⟨fun pins s σ H Q I h => ?_⟩
  refine attr_of hb (thn (he.run pins s σ H _ I h) fun u s1 ⟨y, H1, I1, rx, a, C, dx, fs, v, ey, Z, x, dct, off, l, q⟩ => ?_)
  subst ey
  obtain rfl : u = Value.ref a := rx
  obtain ⟨oe, vs, e1, c1, d1, t1⟩ := x.get I1.hok
  obtain ⟨mA, hns, hr⟩ := dct.get I1.hok
  obtain ⟨od, ho, hl⟩ := lookIn_ns hns
  obtain ⟨u2, hu, ru⟩ := RelO.some_of (v := v) (o := mA n) (by rw [← l]; exact hr n)
  have J : PySem.W.InstAt s1.heap a oe C (some od) := ⟨e1, c1, by unfold PySem.W.notCls; rw [t1] <;> rfl, by rw [d1]; exact ho⟩
  exact HandSPX.exc_get I1.kIn J Z.hga Z.hgt Z.hsub (PySem.W.findObj_own Z.hdct off rfl (by rw [hl, hu])) (handed_of ru) ⟨v, H1, I1.tok _, ru, q⟩
/-- C() of an own error class without __init__ -/
theorem pe_xmake0 {C : Addr} {bmB : List Value} {B newId initId : String} {x : Str} {p pos : Pos} (F : ExcBaseFacts B newId initId bmB) (q : PySem.W.excIn X.K C bmB newId = true) (gC : X.mg x = some (.ref C)) (kC : PySem.W.keepIn X.K (.ref C) = true) (hg : Gl X x)
    (hdb : (x == ("__debug__" : Str)) = false := by decide) : PE X (.Call (.Name x p) [] [] pos) (fun _ H Q => ∀ a, H a = none → Q (.ref a) (upd H a (ExO (.ref C) a))) := by
  refine ⟨fun pins s σ H Q I h => ?_⟩
  refine wpAny_Call_Name_kw (ld_glob I hg gC ?_ hdb)
  refine PySem.W.callWith_K0 I.kIn kC ?_
  show wpAny _ _ (call (.ref C) []) _ _ _
  obtain ⟨bm, N, nm, qn, bs, hdct, sn, sub, ab, col, dd, k0, k1, k2, k3, k5, mN, hC, hN, hni, T⟩ := exc_obj I.kIn q
  refine wpAny_call_exc_subT F T hC hN hni (fun h' a hm => ?_) (by show 0 ≤ sizeLine; omega)
  have hn : H a = none := I.hok.gone hm.new
  obtain ⟨t, ht, _, _⟩ := hm.there
  exact ⟨.ref a, upd H a (ExO (.ref C) a), I.laidN hm.keeps hm.new hn (exO_ok ht ⟨rfl, rfl⟩ rfl rfl rfl (show 4 < 6 by decide)), rfl, h a hn⟩
end
end Wd

set_option Elab.async false
set_option linter.all false
set_option maxRecDepth 100000
set_option maxHeartbeats 4000000
/-! Own error classes of one field, of two, of none: what a text's class must show, what making one answers. -/
namespace Wd
open PySem PySem.Spec PyProof.Rows L2
/-- at a: an exception of the class at C with these fields -/
def ExOne (H : Hp) (a C : Addr) (fs : List (Str × V)) : Prop := ∃ d, ExAt H a C d ∧ ((fs = [] ∧ d = none) ∨ ∃ dx, d = some dx ∧ ExD H dx fs)
theorem ExAt.mono {H H' : Hp} {a C : Addr} {d : Option Addr} (s : Same H H') (x : ExAt H a C d) : ExAt H' a C d := by
  rcases x with x | x | ⟨e, x⟩
  · exact .inl (s _ _ x)
  · exact .inr (.inl (s _ _ x))
  · exact .inr (.inr ⟨e, s _ _ x⟩)
theorem ExD.mono {H H' : Hp} {dx : Addr} {fs : List (Str × V)} (s : Same H H') (x : ExD H dx fs) : ExD H' dx fs := by
  rcases x with x | x
  · exact .inl (s _ _ x)
  · exact .inr (s _ _ x)
theorem ExOne.mono {H H' : Hp} {a C : Addr} {fs : List (Str × V)} (s : Same H H') (x : ExOne H a C fs) : ExOne H' a C fs := by
  obtain ⟨d, x, y⟩ := x
  refine ⟨d, x.mono s, ?_⟩
  rcases y with y | ⟨dx, e, y⟩
  · exact .inl y
  · exact .inr ⟨dx, e, y.mono s⟩
theorem ExOne.f {H : Hp} {d : Option Addr} {fs : List (Str × V)} (y : (fs = [] ∧ d = none) ∨ ∃ dx, d = some dx ∧ ExD H dx fs) : ExF H d := by
  rcases y with ⟨_, e⟩ | ⟨dx, e, y⟩
  · exact .inl e
  · exact .inr ⟨dx, _, e, y⟩
/-- all but what stands at p is as it was -/
def Kp (p : Addr) (H H' : Hp) : Prop := ∀ a o, a ≠ p → H a = some o → H' a = some o
theorem Kp.refl (p : Addr) (H : Hp) : Kp p H H := fun _ _ _ h => h
theorem Kp.trans {p : Addr} {H H1 H2 : Hp} (a : Kp p H H1) (b : Kp p H1 H2) : Kp p H H2 := fun x o n h => b x o n (a x o n h)
theorem Kp.at {p : Addr} {H H1 : Hp} {o : HO} (a : Kp p H H1) : Kp p H (upd H1 p o) := fun x u n h => by rw [upd_ne n]; exact a x u n h
theorem Kp.new {p l : Addr} {H H1 : Hp} {o : HO} (a : Kp p H H1) (h : H1 l = none) : Kp p H (upd H1 l o) := fun x u n e => by rw [upd_ne (ne_of_none (a x u n e) h)]; exact a x u n e
theorem Kp.same {p : Addr} {H H1 H2 : Hp} (a : Kp p H H1) (s : Same H1 H2) : Kp p H H2 := fun x o n h => s x o (a x o n h)
theorem same_new {H : Hp} {l : Addr} {o : HO} (n : H l = none) : Same H (upd H l o) := fun b u e => by rw [upd_ne (ne_of_none e n)]; exact e
/-- a new thing at a, changed while it is made: all that was known stays -/
theorem Kp.born {a : Addr} {o : HO} {H H' : Hp} (k : Kp a (upd H a o) H') (n : H a = none) : Same H H' := fun b u e => by
  have ne : b ≠ a := ne_of_none e n
  exact k b u ne (by rw [upd_ne ne]; exact e)
/-! ### the promises of an __init__ -/
def XcE (K : PySem.W.Frag) (C : Addr) : Prop := ∃ (B newId initId : String) (bmB T : List Value), Xc K C B newId initId bmB T
def spI1 (K : PySem.W.Frag) (f : Str) : Sp := fun vs H Q _ => ∃ (a C : Addr) (y : V), vs = [.ref a, y] ∧ XcE K C ∧ PySem.W.findIn K (.ref C) f = some none ∧ H a = some (exo a C none) ∧ ∀ H', Kp a H H' → ExOne H' a C [(f, y)] → Q .non H'
def spI2 (K : PySem.W.Frag) (f g : Str) : Sp := fun vs H Q _ => ∃ (a C : Addr) (y z : V), vs = [.ref a, y, z] ∧ XcE K C ∧ PySem.W.findIn K (.ref C) f = some none ∧ PySem.W.findIn K (.ref C) g = some none ∧ H a = some (exo a C none) ∧
  ∀ H', Kp a H H' → ExOne H' a C [(g, z), (f, y)] → Q .non H'
/-- what making one answers -/
theorem x1_ans {K : PySem.W.Frag} {C : Addr} {f : Str} {y : V} {H : Hp} {Q : VK} (c : XcE K C) (off : PySem.W.findIn K (.ref C) f = some none) (k : ∀ a H', H a = none → Same H H' → ExOne H' a C [(f, y)] → Q (.ref a) H') :
    ∀ a, H a = none → spI1 K f [.ref a, y] (upd H a (exo a C none)) (fun v H3 => v = .non ∧ Q (.ref a) H3) E0 :=
  fun a n => ⟨a, C, y, rfl, c, off, upd_same, fun H' kp x => ⟨rfl, k a H' n (kp.born n) x⟩⟩
theorem x2_ans {K : PySem.W.Frag} {C : Addr} {f g : Str} {y z : V} {H : Hp} {Q : VK} (c : XcE K C) (off : PySem.W.findIn K (.ref C) f = some none) (off2 : PySem.W.findIn K (.ref C) g = some none) (k : ∀ a H', H a = none → Same H H' → ExOne H' a C [(g, z), (f, y)] → Q (.ref a) H') :
    ∀ a, H a = none → spI2 K f g [.ref a, y, z] (upd H a (exo a C none)) (fun v H3 => v = .non ∧ Q (.ref a) H3) E0 :=
  fun a n => ⟨a, C, y, z, rfl, c, off, off2, upd_same, fun H' kp x => ⟨rfl, k a H' n (kp.born n) x⟩⟩
structure XA where
  C : Addr
  fI : Addr
  fd : FuncData
section
variable (P : Program) (w : World) (K : PySem.W.Frag) (mg : Str → Option Value) (base : Heap)
structure XOne (x : Str) (q : XA) (f : Str) (B newId initId : String) (bmB T : List Value) : Prop where
  gC : mg x = some (.ref q.C)
  xc : Xc K q.C B newId initId bmB T
  xi : PySem.W.XIs K q.C
  off : PySem.W.findIn K (.ref q.C) f = some none
  iC : PySem.W.findIn K (.ref q.C) "__init__" = some (some (.ref q.fI))
  tI : PySem.W.typeIn K (.ref q.fI) = some (.type "function")
  F : FnOk P w K mg base CX0 1 q.fI q.fd ["self", f] (spI1 K f)
  bp : KBn K q.fd ["self", f] 2 [] (fun us _ => us) (fun vs _ => vs)
  bk : KBn K q.fd ["self", f] 1 [f] (fun us ws => us ++ ws) (fun vs zs => vs ++ zs)
structure XTwo (x : Str) (q : XA) (f g : Str) (B newId initId : String) (bmB T : List Value) : Prop where
  gC : mg x = some (.ref q.C)
  xc : Xc K q.C B newId initId bmB T
  xi : PySem.W.XIs K q.C
  off : PySem.W.findIn K (.ref q.C) f = some none
  off2 : PySem.W.findIn K (.ref q.C) g = some none
  iC : PySem.W.findIn K (.ref q.C) "__init__" = some (some (.ref q.fI))
  tI : PySem.W.typeIn K (.ref q.fI) = some (.type "function")
  F : FnOk P w K mg base CX0 1 q.fI q.fd ["self", f, g] (spI2 K f g)
  bp : KBn K q.fd ["self", f, g] 3 [] (fun us _ => us) (fun vs _ => vs)
  bk : KBn K q.fd ["self", f, g] 1 [g, f] (fun us ws => us ++ ws.reverse) (fun vs zs => vs ++ zs.reverse)
structure XNil (x : Str) (q : XA) (B newId initId : String) (bmB T : List Value) : Prop where
  gC : mg x = some (.ref q.C)
  xc : Xc K q.C B newId initId bmB T
  xi : PySem.W.XIs K q.C
  kC : PySem.W.keepIn K (.ref q.C) = true
  eF : ExcBaseFacts B newId initId bmB
  eq : PySem.W.excIn K q.C bmB newId = true
end
/-! ### isinstance among own error classes -/
theorem kit_self {K : PySem.W.Frag} {C : Addr} : PySem.W.kitOne K (.ref C) (.ref C) = some true := by
  unfold PySem.W.kitOne
  rw [if_pos (by simp)]
theorem Xc.sub {K : PySem.W.Frag} {C : Addr} {B newId initId : String} {bmB T : List Value} (c : Xc K C B newId initId bmB T) (v : Value) : PySem.W.subIn K (.ref C) v = some ((Value.ref C :: T).contains v) := by
  obtain ⟨nm, bs, N, q, sn, sub, ab, col, cd⟩ := c.cd
  show PySem.W.mroIn K C v = _
  unfold PySem.W.mroIn
  rw [cd, Option.bind_some, if_neg (by simp)]
def isTyV : Value → Bool
  | .type _ => true
  | _ => false
def noRefs (T : List Value) : Bool := T.all isTyV
theorem noRefs_ref {a : Addr} : ∀ {T : List Value}, noRefs T = true → T.contains (.ref a) = false
  | [], _ => rfl
  | v :: T, h => by
    have h' : isTyV v = true ∧ noRefs T = true := by
      have z : (isTyV v && T.all isTyV) = true := h
      rw [Bool.and_eq_true] at z
      exact z
    rw [List.contains_cons, noRefs_ref h'.2]
    cases v <;> first | rfl | exact absurd h'.1 Bool.false_ne_true
theorem kit_two {K : PySem.W.Frag} {C D : Addr} {B newId initId B' newId' initId' : String} {bmB T bmB' T' : List Value} (c : Xc K C B newId initId bmB T) (d : Xc K D B' newId' initId' bmB' T') (nr : noRefs T = true) :
    PySem.W.kitOne K (.ref C) (.ref D) = some (decide (C = D)) := by
  by_cases e : C = D
  · subst e
    rw [decide_eq_true rfl]
    exact kit_self
  · obtain ⟨nm, bs, N, q, sn, sub, ab, col, cd⟩ := d.cd
    have ne : (Value.ref C == Value.ref D) = false := beq_eq_false_iff_ne.mpr fun z => e (Value.ref.inj z)
    have ne2 : (Value.ref D == Value.ref C) = false := beq_eq_false_iff_ne.mpr fun z => e (Value.ref.inj z).symm
    unfold PySem.W.kitOne PySem.W.kitCls
    rw [if_neg (by rw [ne]; simp)]
    show (if ((PySem.W.clsIn K D).isSome && PySem.W.typeIn K (Value.ref D) == some (Value.type "type")) = true then PySem.W.subIn K (Value.ref C) (Value.ref D) else none) = _
    rw [d.tyC, cd, if_pos (by simp), c.sub, List.contains_cons, ne2, noRefs_ref nr, decide_eq_false e]
    rfl
theorem kit_base {K : PySem.W.Frag} {C : Addr} {B newId initId : String} {bmB T : List Value} (c : Xc K C B newId initId bmB T) {S : String} (m : PySem.W.kitMeta S = true) : PySem.W.kitOne K (.ref C) (.type S) = some (T.contains (.type S)) := by
  unfold PySem.W.kitOne PySem.W.kitCls
  rw [if_neg (by simp)]
  show (if PySem.W.kitMeta S = true then PySem.W.subIn K (Value.ref C) (Value.type S) else none) = _
  rw [if_pos m, c.sub, List.contains_cons]
  rfl
theorem nr_V : noRefs PySem.WX.tlV = true := rfl
theorem nr_K : noRefs PySem.WX.tlK = true := rfl
theorem nr_I : noRefs PySem.WX.tlI = true := rfl
theorem nr_L : noRefs PySem.WX.tlL = true := rfl
theorem nr_A : noRefs PySem.WX.tlA = true := rfl
theorem nr_O : noRefs PySem.WX.tlO = true := rfl
theorem nr_R : noRefs PySem.WX.tlR = true := rfl
end Wd

set_option Elab.async false
set_option linter.all false
set_option maxRecDepth 100000
set_option maxHeartbeats 4000000
/-! The end of a law whose def is an FnG. -/
namespace Wd
open PySem PySem.Spec PyProof.Rows L2 PySem.W PySem.Calls
theorem end_core {P : Program} {w : World} {K : PySem.W.Frag} {mg mb : Str → Option Value} {k : Nat} {fa a : Addr} {fd : FuncData} {x : Str} {sp : Sp} {z : Shared} {us : List Value} {ks : List Int}
    (inK : K.In z.heap) (hns : z.heap.Ns mainGlobals mg) (hb : z.heap.Ns builtinsNs mb) (hbb : ∀ x : Str, x ≠ "__name__" → mb x = bootBuiltins x) (nolim : z.heap.NoLimit) (hgn : z.gens = #[])
    (obj : z.heap.get? a = some { cls := .type "list", data := .seq us.toArray }) (hr : Room k callerA)
    (F : ∀ base : Heap, K.In base → base.Ns mainGlobals mg → FnG P w K mg base CX0 k fa fd [x] sp) (bind : ∀ (s : Shared) (u : Value), BindsTo s fd ⟨[u], []⟩ [(x, u)])
    (G : Hp) (only : Only G) (hsp : sp [.ref a] G (fun v _ => v = .bl true) fun _ _ _ => False) (ok : HOk P w G z.heap) (trackA : ∀ b, G b ≠ none → b = a) (offK : G a ≠ none → K.lookup a = none) :
    codeAny (model P w) callerA (.call (.ref fa) ⟨[.ref a], []⟩) (fun r z2 => r = .ok (.ret (.bool true)) ∧ OldK z.heap z2.heap ∧ z2.os = z.os ∧ AllBare z2.gens) z := by
  have notDict : ∀ {b : Addr} {o : Obj} {es : Array DictEntry} {ep : Nat}, z.heap.get? b = some o → o.data = .dict es ep → G b = none := by
    intro b o es ep e d
    cases q : G b with
    | none => rfl
    | some u =>
      have eb : b = a := trackA b (by rw [q]; simp)
      subst eb
      rw [obj] at e
      cases e
      have dd : Data.seq us.toArray _ = Data.dict es ep := d
      cases dd
  have ns2 : ∀ {b : Addr} {m : Str → Option Value}, z.heap.Ns b m → (hidT z.heap G).Ns b m := fun {b m} ⟨o, es, ep, e, d, r⟩ => ⟨o, es, ep, hidT_get e (notDict e d), d, r⟩
  have inB : K.In (hidT z.heap G) := by
    intro b o e
    refine hidT_get (inK b o e) ?_
    cases q : G b with
    | none => rfl
    | some u =>
      have eb : b = a := trackA b (by rw [q]; simp)
      subst eb
      rw [offK (by rw [q]; simp)] at e
      cases e
  have hM : Mod K mg (hidT z.heap G) := ⟨inB, ns2 hns, ⟨mb, ns2 hb, hbb⟩, let ⟨mc, h1, h2⟩ := nolim; ⟨mc, ns2 h1, h2⟩⟩
  have en : Env0 P w K mg (hidT z.heap G) callerA [] z G := ⟨rfl, hM, fun b o e => of_hidT e, Nat.le_of_eq (hidT_size _ _), trivial, (by intro b hb; cases hb), ok, .of_eq hgn⟩
  refine codeAny_mono ((F _ inB (ns2 hns)).run callerA [] z G ⟨[.ref a], []⟩ [.ref a] [.ref a] _ _ rfl hr en (bind z (.ref a)) (.cons rfl .nil) hsp) fun r z2 h => ?_
  match r, h with
  | .error e, h => exact False.elim h
  | .ok .next, h => exact False.elim h
  | .ok .brk, h => exact False.elim h
  | .ok .cont, h => exact False.elim h
  | .ok (.ret u), ⟨v, G', os, bare, un, ok', rv, q⟩ =>
    have q' : v = .bl true := q
    subst q'
    obtain rfl : u = Value.bool true := rv
    refine ⟨rfl, OldK.of_keep fun b o e => ?_, os, bare⟩
    cases q : G b with
    | none => exact un.keep b o e q (by intro t; cases t) (by simp)
    | some u =>
      rcases only b with t | ⟨ob, xs, t⟩
      · rw [q] at t; cases t
      · have t2 := un.frzs b ob _ t
        obtain ⟨e1, _⟩ := ok b _ t
        obtain ⟨e2, _⟩ := ok' b _ t2
        rw [e] at e1
        cases e1
        exact e2
theorem end_call {P : Program} {w : World} {K : PySem.W.Frag} {mg mb : Str → Option Value} {k : Nat} {fa a : Addr} {fd : FuncData} {x : Str} {sp : Sp} {z : Shared} {us : List Value} {ks : List Int}
    (inK : K.In z.heap) (hns : z.heap.Ns mainGlobals mg) (hb : z.heap.Ns builtinsNs mb) (hbb : ∀ x : Str, x ≠ "__name__" → mb x = bootBuiltins x) (nolim : z.heap.NoLimit) (hgn : z.gens = #[])
    (obj : z.heap.get? a = some { cls := .type "list", data := .seq us.toArray }) (hi : IntsAre us ks) (hl : ks.length ≤ sizeLine) (hr : Room k callerA)
    (F : ∀ base : Heap, K.In base → base.Ns mainGlobals mg → FnG P w K mg base CX0 k fa fd [x] sp) (bind : ∀ (s : Shared) (u : Value), BindsTo s fd ⟨[u], []⟩ [(x, u)])
    (hsp : ∀ G : Hp, Only G → SqL K G a (ks.map V.int) → sp [.ref a] G (fun v _ => v = .bl true) fun _ _ _ => False) :
    codeAny (model P w) callerA (.call (.ref fa) ⟨[.ref a], []⟩) (fun r z2 => r = .ok (.ret (.bool true)) ∧ OldK z.heap z2.heap ∧ z2.os = z.os ∧ AllBare z2.gens) z := by
  have rv := vals_ints hi
  have hlen := hi.length
  cases hk : K.lookup a with
  | some o =>
    have e := inK a o hk
    rw [obj] at e
    cases e
    have nn : ∀ b : Addr, (fun _ => none : Hp) b = none := fun _ => rfl
    exact end_core (ks := ks) inK hns hb hbb nolim hgn obj hr F bind (fun _ => none) (fun _ => .inl rfl) (hsp _ (fun _ => .inl rfl) (.inr ⟨_, us.toArray, _, hk, rfl, rfl, rfl, by rw [List.size_toArray, hlen]; exact hl, by simpa using rv⟩))
      (fun b u t => by have t' : (none : Option HO) = some u := t; cases t') (fun b t => absurd rfl t) (fun t => absurd rfl t)
  | none =>
    have only : Only (fun b => if b = a then some (.frz { cls := .type "list", data := .seq us.toArray } (.lst (ks.map V.int))) else none) := by
      intro b
      by_cases eb : b = a
      · exact .inr ⟨_, _, if_pos eb⟩
      · exact .inl (if_neg eb)
    refine end_core (ks := ks) inK hns hb hbb nolim hgn obj hr F bind _ only (hsp _ only (.inl (.inr ⟨_, if_pos rfl⟩))) (fun b u t => ?_) (fun b t => ?_) fun _ => hk
    · by_cases eb : b = a
      · have t' := (if_pos eb).symm.trans t
        cases t'
        subst eb
        exact ⟨obj, by rw [List.length_map]; exact hl, us, _, rv, obj⟩
      · have t' := (if_neg eb).symm.trans t
        cases t'
    · by_cases eb : b = a
      · exact eb
      · exact absurd (if_neg eb) t
theorem walk_g {l : PySem.W.OpenLaw} {n k : Nat} {q : Program} {loose : List Str} {XP : (Str → Option Value) → Heap → Prop} {YP : World → Heap → Prop} {d : DefRec} {K : Params → PySem.W.Frag} {sp : World → Sp} {x : Str}
    (hn : l.most = some n) (hn2 : n ≤ sizeLine) (hdf : d.params.defaults = []) (hr : Room k callerA) (hY : ∀ (w : World) (h : Heap), YP w h → (K w.params).In h)
    (F : ∀ (w : World) (mg : Str → Option Value) (fa : Addr) (h : Heap), (K w.params).In h → h.Ns mainGlobals mg → mg d.name = some (.ref fa) →
      ∃ fd : FuncData, (∀ (s : Shared) (u : Value), BindsTo s fd ⟨[u], []⟩ [(x, u)]) ∧ ∀ base : Heap, (K w.params).In base → base.Ns mainGlobals mg → FnG l.prog w (K w.params) mg base CX0 k fa fd [x] (sp w))
    (hsp : ∀ (w : World) (G : Hp) (a : Addr) (ks : List Int), ks.length ≤ n → Only G → SqL (K w.params) G a (ks.map V.int) → sp w [.ref a] G (fun v _ => v = .bl true) fun _ _ _ => False) :
    PySem.W.WalkO q loose XP YP l.row.toRowW d [] (fun f vs => PySem.call f vs) := by
  refine Att.attach_call hn hdf fun w z0 z1 mg mb fa o pm cd doc a us ks Gr Y ho hd hcd hmg hobj hints hlen hg => ?_
  have inK := hY w _ Y
  obtain ⟨fd, hb, hF⟩ := F w mg fa _ inK Gr.T.g hmg
  exact end_call inK Gr.T.g Gr.T.b Gr.T.builtins Gr.T.nolimit hg hobj hints (Nat.le_trans hlen hn2) hr hF hb fun G hO hS => hsp w G a ks hlen hO hS
end Wd

set_option Elab.async false
set_option linter.all false
set_option maxRecDepth 100000
set_option maxHeartbeats 4000000
/-! repr of data at any depth: none, bools, ints, texts, lists, tuples, dicts with ints and texts as keys. -/
namespace Wd
open PySem PySem.Spec PyProof.Rows L2
def keyD : Key → PyData
  | .inl i => .int i
  | .inr x => .str x
mutual
/-- v is the data d; each list, tuple, dict in it stands at an address of which N is true -/
inductive Dq (N : Addr → Prop) (K : PySem.W.Frag) (H : Hp) : V → PyData → Prop
  | non : Dq N K H .non .none
  | bl (b : Bool) : Dq N K H (.bl b) (.bool b)
  | int (i : Int) : Dq N K H (.int i) (.int i)
  | str (x : Str) : Dq N K H (.str x) (.str x)
  | lst {a : Addr} {xs : List V} {ds : List PyData} : N a → SqL K H a xs → DqAll N K H xs ds → Dq N K H (.ref a) (.list ds)
  | tup {a : Addr} {xs : List V} {ds : List PyData} : N a → SqT K H a xs → DqAll N K H xs ds → Dq N K H (.ref a) (.tuple ds)
  | dct {a : Addr} {kvs : List (Key × V)} {ds : List (PyData × PyData)} : N a → Rd H a (.dK kvs) → DqKv N K H kvs ds → Dq N K H (.ref a) (.dict ds)
inductive DqAll (N : Addr → Prop) (K : PySem.W.Frag) (H : Hp) : List V → List PyData → Prop
  | nil : DqAll N K H [] []
  | cons {v : V} {vs : List V} {d : PyData} {ds : List PyData} : Dq N K H v d → DqAll N K H vs ds → DqAll N K H (v :: vs) (d :: ds)
inductive DqKv (N : Addr → Prop) (K : PySem.W.Frag) (H : Hp) : List (Key × V) → List (PyData × PyData) → Prop
  | nil : DqKv N K H [] []
  | cons {k : Key} {v : V} {kvs : List (Key × V)} {d : PyData} {ds : List (PyData × PyData)} : Dq N K H v d → DqKv N K H kvs ds → DqKv N K H ((k, v) :: kvs) ((keyD k, d) :: ds)
end
def anyA : Addr → Prop := fun _ => True
section
variable {N N' : Addr → Prop} {K : PySem.W.Frag} {H H' : Hp}
theorem sqL_at {a : Addr} {xs : List V} (s : ∀ o, H a = some o → H' a = some o) (h : SqL K H a xs) : SqL K H' a xs := by
  rcases h with (h | ⟨o, h⟩) | h
  · exact .inl (.inl (s _ h))
  · exact .inl (.inr ⟨o, s _ h⟩)
  · exact .inr h
theorem sqT_at {a : Addr} {xs : List V} (s : ∀ o, H a = some o → H' a = some o) (h : SqT K H a xs) : SqT K H' a xs := by
  rcases h with (h | ⟨o, h⟩) | h
  · exact .inl (.inl (s _ h))
  · exact .inl (.inr ⟨o, s _ h⟩)
  · exact .inr h
theorem rd_at {a : Addr} {u : HO} (s : ∀ o, H a = some o → H' a = some o) (h : Rd H a u) : Rd H' a u := by
  rcases h with h | ⟨o, h⟩
  · exact .inl (s _ h)
  · exact .inr ⟨o, s _ h⟩
mutual
theorem Dq.move (n : ∀ a, N a → N' a) (s : ∀ a o, N a → H a = some o → H' a = some o) : ∀ (d : PyData) (v : V), Dq N K H v d → Dq N' K H' v d
  | .none, _, h => by cases h; exact .non
  | .bool b, _, h => by cases h; exact .bl b
  | .int i, _, h => by cases h; exact .int i
  | .str x, _, h => by cases h; exact .str x
  | .list ds, _, h => by
    cases h with
    | lst na hq ha => exact .lst (n _ na) (sqL_at (fun o => s _ o na) hq) (DqAll.move n s ds _ ha)
  | .tuple ds, _, h => by
    cases h with
    | tup na hq ha => exact .tup (n _ na) (sqT_at (fun o => s _ o na) hq) (DqAll.move n s ds _ ha)
  | .dict ds, _, h => by
    cases h with
    | dct na hq ha => exact .dct (n _ na) (rd_at (fun o => s _ o na) hq) (DqKv.move n s ds _ ha)
theorem DqAll.move (n : ∀ a, N a → N' a) (s : ∀ a o, N a → H a = some o → H' a = some o) : ∀ (ds : List PyData) (vs : List V), DqAll N K H vs ds → DqAll N' K H' vs ds
  | [], _, h => by cases h; exact .nil
  | d :: ds, _, h => by
    cases h with
    | cons h1 h2 => exact .cons (Dq.move n s d _ h1) (DqAll.move n s ds _ h2)
theorem DqKv.move (n : ∀ a, N a → N' a) (s : ∀ a o, N a → H a = some o → H' a = some o) : ∀ (ds : List (PyData × PyData)) (vs : List (Key × V)), DqKv N K H vs ds → DqKv N' K H' vs ds
  | [], _, h => by cases h; exact .nil
  | (k, d) :: ds, _, h => by
    cases h with
    | cons h1 h2 => exact .cons (Dq.move n s d _ h1) (DqKv.move n s ds _ h2)
end
theorem Dq.mono {v : V} {d : PyData} (s : Same H H') (h : Dq N K H v d) : Dq N K H' v d := Dq.move (fun _ n => n) (fun a o _ => s a o) d v h
theorem DqAll.mono {v : List V} {d : List PyData} (s : Same H H') (h : DqAll N K H v d) : DqAll N K H' v d := DqAll.move (fun _ n => n) (fun a o _ => s a o) d v h
theorem DqKv.mono {v : List (Key × V)} {d : List (PyData × PyData)} (s : Same H H') (h : DqKv N K H v d) : DqKv N K H' v d := DqKv.move (fun _ n => n) (fun a o _ => s a o) d v h
theorem Dq.any {v : V} {d : PyData} (h : Dq N K H v d) : Dq anyA K H v d := Dq.move (fun _ _ => trivial) (fun _ _ _ e => e) d v h
theorem DqAll.any {v : List V} {d : List PyData} (h : DqAll N K H v d) : DqAll anyA K H v d := DqAll.move (fun _ _ => trivial) (fun _ _ _ e => e) d v h
theorem DqAll.snoc : ∀ {vs : List V} {ds : List PyData} {v : V} {d : PyData}, DqAll N K H vs ds → Dq N K H v d → DqAll N K H (vs ++ [v]) (ds ++ [d])
  | _, _, _, _, .nil, x => .cons x .nil
  | _, _, _, _, .cons y r, x => .cons y (r.snoc x)
theorem DqAll.app : ∀ {vs vs' : List V} {ds ds' : List PyData}, DqAll N K H vs ds → DqAll N K H vs' ds' → DqAll N K H (vs ++ vs') (ds ++ ds')
  | _, _, _, _, .nil, x => x
  | _, _, _, _, .cons y r, x => .cons y (r.app x)
theorem DqAll.length : ∀ {vs : List V} {ds : List PyData}, DqAll N K H vs ds → vs.length = ds.length
  | _, _, .nil => rfl
  | _, _, .cons y r => by rw [List.length_cons, List.length_cons, r.length]
theorem DqAll.bools : ∀ bs : List Bool, DqAll N K H (bs.map V.bl) (bs.map PyData.bool)
  | [] => .nil
  | b :: bs => .cons (.bl b) (DqAll.bools bs)
theorem DqAll.strs : ∀ bs : List Str, DqAll N K H (bs.map V.str) (bs.map PyData.str)
  | [] => .nil
  | b :: bs => .cons (.str b) (DqAll.strs bs)
mutual
/-- without dicts it is the layer's own -/
theorem Dq.dp : ∀ (d : PyData) (v : V), d.hasDict = false → Dq N K H v d → Dp K H v d
  | .none, _, _, h => by cases h; exact .non
  | .bool b, _, _, h => by cases h; exact .bl b
  | .int i, _, _, h => by cases h; exact .int i
  | .str x, _, _, h => by cases h; exact .str x
  | .list ds, _, e, h => by
    cases h with
    | lst _ hq ha => exact .lst hq (DqAll.dp ds _ (by simpa [PyData.hasDict] using e) ha)
  | .tuple ds, _, e, h => by
    cases h with
    | tup _ hq ha => exact .tup hq (DqAll.dp ds _ (by simpa [PyData.hasDict] using e) ha)
  | .dict ds, _, e, h => by
    rw [PyData.hasDict] at e
    cases e
theorem DqAll.dp : ∀ (ds : List PyData) (vs : List V), PyData.hasDictAll ds = false → DqAll N K H vs ds → DpAll K H vs ds
  | [], _, _, h => by cases h; exact .nil
  | d :: ds, _, e, h => by
    cases h with
    | cons h1 h2 =>
      have e' : d.hasDict = false ∧ PyData.hasDictAll ds = false := by simpa [PyData.hasDictAll] using e
      exact .cons (Dq.dp d _ e'.1 h1) (DqAll.dp ds _ e'.2 h2)
end
end
section
variable {X : Cx} {pins : List (Addr × Obj)} {σ : L2.St} {H : Hp} {s : Shared} {N : Addr → Prop}
/-- what an object shows: where it is read, its text -/
structure Rk (P : Program) (w : World) (h : Heap) (u : Value) (d : PyData) : Prop where
  ex : ∃ as bs, Reads h u d as ∧ ReadAtMost h d.depth bs ∧ ReprK P w bs h d.depth u d.shown
structure Rks (P : Program) (w : World) (h : Heap) (us : List Value) (ds : List PyData) : Prop where
  ex : ∃ as bs, ReadsAll h us ds as ∧ ReadAtMost h (PyData.depthAll ds) bs ∧ ReprAllK P w bs h (PyData.depthAll ds) us (PyData.shownAll ds)
theorem Rks.nil {P : Program} {w : World} {h : Heap} : Rks P w h [] [] := ⟨[], [], .nil, (fun _ m => nomatch m), by simp only [PyData.shownAll]; exact .nil⟩
theorem Rks.cons {P : Program} {w : World} {h : Heap} {u : Value} {us : List Value} {d : PyData} {ds : List PyData} (a : Rk P w h u d) (b : Rks P w h us ds) : Rks P w h (u :: us) (d :: ds) := by
  obtain ⟨as, bs, r1, m1, k1⟩ := a.ex
  obtain ⟨cs, es, r2, m2, k2⟩ := b.ex
  refine ⟨as ++ cs, bs ++ es, .cons r1 r2, fun c hm => ?_, ?_⟩
  · simp only [PyData.depthAll]
    rcases List.mem_append.mp hm with hm | hm
    · obtain ⟨d', as', r', hd⟩ := m1 c hm
      exact ⟨d', as', r', Nat.le_trans hd (Nat.le_max_left _ _)⟩
    · obtain ⟨d', as', r', hd⟩ := m2 c hm
      exact ⟨d', as', r', Nat.le_trans hd (Nat.le_max_right _ _)⟩
  · simp only [PyData.depthAll, PyData.shownAll]
    exact .cons ((k1.more fun c hc => List.mem_append_left _ hc).level_le (Nat.le_max_left _ _)) (k2.more_le (fun c hc => List.mem_append_right _ hc) (Nat.le_max_right _ _))
theorem rk_scal {P : Program} {w : World} {h : Heap} {u : Value} {d : PyData} (r : Reads h u d []) (k : ReprIs P w u d.shown) : Rk P w h u d := ⟨[], [], r, (fun _ m => nomatch m), .of_is k _ _ _⟩
theorem rk_list {P : Program} {w : World} {h : Heap} {a : Addr} {o : Obj} {us : List Value} {n : Nat} {ds : List PyData} (h1 : h.get? a = some o) (h2 : o.cls = .type "list") (h3 : o.data = .seq us.toArray n) (q : Rks P w h us ds) : Rk P w h (.ref a) (.list ds) := by
  obtain ⟨as, bs, r, hb, hk⟩ := q.ex
  have rr : Reads h (.ref a) (.list ds) (a :: as) := .list h1 h2 h3 r
  have off : a ∉ bs := not_mem_of_deeper rr (by simp only [PyData.depth]; omega) hb
  refine ⟨a :: as, a :: bs, rr, ReadAtMost.cons rr (by simp only [PyData.depth]; omega) hb, ?_⟩
  simp only [PyData.depth, PyData.shown]
  cases us with
  | nil =>
    cases r
    simp only [PyData.shownAll, listText_nil]
    exact ReprK.listEmpty h1 h2 h3
  | cons x l => exact ReprK.list h1 h2 h3 off (by simpa using hk.length_eq) fun i y e => hk.item i y (by simpa using e)
theorem rk_tuple {P : Program} {w : World} {h : Heap} {a : Addr} {o : Obj} {us : List Value} {n : Nat} {ds : List PyData} (h1 : h.get? a = some o) (h2 : o.cls = .type "tuple") (h3 : o.data = .seq us.toArray n) (q : Rks P w h us ds) : Rk P w h (.ref a) (.tuple ds) := by
  obtain ⟨as, bs, r, hb, hk⟩ := q.ex
  have rr : Reads h (.ref a) (.tuple ds) as := .tuple h1 h2 h3 r
  have off : a ∉ bs := not_mem_of_deeper rr (by simp only [PyData.depth]; omega) hb
  refine ⟨as, a :: bs, rr, ReadAtMost.cons rr (by simp only [PyData.depth]; omega) hb, ?_⟩
  simp only [PyData.depth, PyData.shown]
  exact ReprK.tuple h1 h2 h3 off hk
theorem rk_dict {P : Program} {w : World} {h : Heap} {a : Addr} {o : Obj} {es : Array DictEntry} {n : Nat} {ds : List (PyData × PyData)} (h1 : h.get? a = some o) (h2 : o.cls = .type "dict") (h3 : o.data = .dict es n) (hsys : (a == sysModules) = false)
    (q1 : Rks P w h (es.toList.map (·.key)) (ds.map (·.1))) (q2 : Rks P w h (es.toList.map (·.val)) (ds.map (·.2))) : Rk P w h (.ref a) (.dict ds) := by
  obtain ⟨as, bs, r1, hb1, hk1⟩ := q1.ex
  obtain ⟨cs, es', r2, hb2, hk2⟩ := q2.ex
  have rr : Reads h (.ref a) (.dict ds) (a :: as ++ cs) := .dict h1 h2 h3 r1 r2
  have hb : ReadAtMost h (PyData.depthKv ds) (bs ++ es') := (hb1.mono (PyData.depthAll_keys_le ds)).append (hb2.mono (PyData.depthAll_vals_le ds))
  have off : a ∉ bs ++ es' := not_mem_of_deeper rr (by simp only [PyData.depth]; omega) hb
  refine ⟨_, a :: (bs ++ es'), rr, ReadAtMost.cons rr (by simp only [PyData.depth]; omega) hb, ?_⟩
  simp only [PyData.depth, PyData.shown, PyData.shownKv_eq]
  refine ReprK.dict h1 h2 h3 hsys off (ReprEntriesK.of_two es.toList _ _ (hk1.more_le (fun b hb => List.mem_append_left _ hb) ?_) (hk2.more_le (fun b hb => List.mem_append_right _ hb) ?_))
  · exact PyData.depthAll_keys_le ds
  · exact PyData.depthAll_vals_le ds
theorem rk_key {P : Program} {w : World} {h : Heap} {k : Key} {v : Value} (e : (mixKind P w).is k v = true) (hs : (keyD k).showable = true) (hz : (keyD k).shown.length ≤ sizeLine) : Rk P w h v (keyD k) := by
  rcases keyIs_shape (k := k) (v := v) e with ⟨i, t, rfl, rfl⟩ | ⟨x, t, rfl, rfl⟩
  · exact rk_scal (.int i t) (by simp only [keyD, PyData.shown]; exact ReprIs.int t (by simpa [keyD, PyData.showable] using hs))
  · exact rk_scal (.str x t) (by simp only [keyD, PyData.shown]; exact ReprIs.str x t (by simpa only [keyD, PyData.shown] using hz))
mutual
theorem Dq.rk (I : Inv X pins σ H s) : ∀ (d : PyData) (v : V) (u : Value), Dq N X.K H v d → RelV v u → d.showable = true → d.shown.length ≤ sizeLine → Rk X.prog X.w s.heap u d
  | .none, _, _, h, r, _, _ => by
    cases h
    cases r
    exact rk_scal .none (by simp only [PyData.shown]; exact ReprIs.none)
  | .bool b, _, _, h, r, _, _ => by
    cases h
    cases r
    exact rk_scal (.bool b) (by simp only [PyData.shown]; exact ReprIs.bool b)
  | .int i, _, _, h, r, hs, _ => by
    cases h
    obtain ⟨t, rfl⟩ := r
    exact rk_scal (.int i t) (by simp only [PyData.shown]; exact ReprIs.int t (by simpa [PyData.showable] using hs))
  | .str x, _, _, h, r, _, hz => by
    cases h
    obtain ⟨t, rfl⟩ := r
    exact rk_scal (.str x t) (by simp only [PyData.shown]; exact ReprIs.str x t (by simpa only [PyData.shown] using hz))
  | .list ds, _, _, h, r, hs, hz => by
    cases h with
    | lst _ hq ha =>
      cases r
      have hz' : (listText (PyData.shownAll ds)).length ≤ sizeLine := by simpa only [PyData.shown] using hz
      obtain ⟨its, rv, ⟨o, n, ho, hc, _, hd⟩, _⟩ := I.list hq
      exact rk_list ho hc hd (Dq.rks I ds _ its ha rv (by simpa [PyData.showable] using hs) fun t ht => Nat.le_trans (listText_mem_le ht) hz')
  | .tuple ds, _, _, h, r, hs, hz => by
    cases h with
    | tup _ hq ha =>
      cases r
      have hz' : (tupleText (PyData.shownAll ds)).length ≤ sizeLine := by simpa only [PyData.shown] using hz
      obtain ⟨its, rv, ⟨o, ho, hc, n, hd⟩, _⟩ := I.tuple hq
      exact rk_tuple ho hc hd (Dq.rks I ds _ its ha rv (by simpa [PyData.showable] using hs) fun t ht => Nat.le_trans (tupleText_mem_le ht) hz')
  | .dict ds, _, _, h, r, hs, hz => by
    cases h with
    | dct _ hq ha =>
      cases r
      have hz' : (dictText (PyData.shownKv ds)).length ≤ sizeLine := by simpa only [PyData.shown] using hz
      obtain ⟨_, hsys, vs, rv, o, es, ep, ho, hx, hd, _, hp, _⟩ := dk_rd I.hok hq
      obtain ⟨q1, q2⟩ := Dq.rkv I ds _ vs es.toList ha rv hp (by simpa [PyData.showable] using hs) fun t ht => Nat.le_trans (dictText_mem_le ht) hz'
      exact rk_dict ho hx.1 hd hsys q1 q2
theorem Dq.rks (I : Inv X pins σ H s) : ∀ (ds : List PyData) (vs : List V) (us : List Value), DqAll N X.K H vs ds → Vals vs us → PyData.showableAll ds = true → (∀ t ∈ PyData.shownAll ds, t.length ≤ sizeLine) → Rks X.prog X.w s.heap us ds
  | [], _, _, h, r, _, _ => by
    cases h
    cases r
    exact Rks.nil
  | d :: ds, _, _, h, r, hs, hz => by
    cases h with
    | cons h1 h2 =>
      cases r with
      | cons r1 r2 =>
        have hs' : d.showable = true ∧ PyData.showableAll ds = true := by simpa [PyData.showableAll] using hs
        exact Rks.cons (Dq.rk I d _ _ h1 r1 hs'.1 (hz _ (by simp only [PyData.shownAll]; exact List.mem_cons_self ..))) (Dq.rks I ds _ _ h2 r2 hs'.2 fun t ht => hz t (by simp only [PyData.shownAll]; exact List.mem_cons_of_mem _ ht))
theorem Dq.rkv (I : Inv X pins σ H s) : ∀ (ds : List (PyData × PyData)) (kvs : List (Key × V)) (vs : List (Key × Value)) (es : List DictEntry), DqKv N X.K H kvs ds → KV kvs vs → Pairs (mixKind X.prog X.w) es vs → PyData.showableKv ds = true →
    (∀ t ∈ PyData.shownKv ds, t.length ≤ sizeLine) → Rks X.prog X.w s.heap (es.map (·.key)) (ds.map (·.1)) ∧ Rks X.prog X.w s.heap (es.map (·.val)) (ds.map (·.2))
  | [], _, _, _, h, r, p, _, _ => by
    cases h
    cases r
    cases p
    exact ⟨Rks.nil, Rks.nil⟩
  | (kd, d) :: ds, _, _, _, h, r, p, hs, hz => by
    cases h with
    | cons h1 h2 =>
      cases r with
      | cons r1 r2 =>
        cases p with
        | cons p1 p2 p3 =>
          rename_i k v kvs kv0 vs0 e0 es0
          obtain ⟨ek, rv⟩ := r1
          have hs' : ((keyD k).showable = true ∧ d.showable = true) ∧ PyData.showableKv ds = true := by simpa [PyData.showableKv] using hs
          have h0 := hz _ (by simp only [PyData.shownKv]; exact List.mem_cons_self ..)
          rw [strLen_append, strLen_append] at h0
          obtain ⟨q1, q2⟩ := Dq.rkv I ds _ _ _ h2 r2 p3 hs'.2 fun t ht => hz t (by simp only [PyData.shownKv]; exact List.mem_cons_of_mem _ ht)
          have ek' : k = kv0.1 := ek
          refine ⟨Rks.cons (rk_key (by rw [ek']; exact p1) hs'.1.1 (by omega)) q1, Rks.cons ?_ q2⟩
          show Rk _ _ _ e0.val d
          rw [p2]
          exact Dq.rk I d _ _ h1 rv hs'.1.2 (by omega)
end
end
section
variable {X : Cx}
/-- repr(x) -/
def rRepr (K : PySem.W.Frag) : List V → Hp → VK → Prop := fun xs H Q => ∃ v d, xs = [v] ∧ Dq anyA K H v d ∧ d.showable = true ∧ d.shown.length ≤ sizeLine ∧ d.depth ≤ 60 ∧ Q (.str d.shown) H
theorem call_reprG (hgd : X.A.guards = some []) (hu : X.A.units + 64 < cLine) : CallR X (.builtin "repr") (rRepr X.K) := by
  intro pins s σ H xs us Q I r h
  obtain ⟨v, d, rfl, hd, hs, hz, hdep, q⟩ := h
  obtain ⟨u, rfl, rv⟩ := vals1 r
  have back : ∀ (h' : Heap) (t : Tok) (tk : Nat), (∀ b o, s.heap.get? b = some o → h'.get? b = some o) → EP X pins σ Q (.str d.shown t) { s with heap := h', toks := tk } :=
    fun h' t tk k => ⟨.str d.shown, H, I.kept k, ⟨t, rfl⟩, q⟩
  cases hd with
  | non =>
    cases rv
    simp only [PyData.shown] at back
    exact call_repr_gives (typeIs_none s) F.slot_NoneType_repr F.entry_NoneType_repr (F.args_NoneType_repr_1 _) gives_none_repr (back s.heap _ _ fun _ _ e => e)
  | bl b =>
    cases rv
    simp only [PyData.shown] at back
    exact call_repr_gives (PySem.typeIs_bool s b) F.slot_bool_repr F.entry_bool_repr (F.args_bool_repr_1 _) (gives_bool_repr b) (back s.heap _ _ fun _ _ e => e)
  | int i =>
    obtain ⟨t, rfl⟩ := rv
    have hi : i.natAbs.log2 < 1920 := by simpa [PyData.showable] using hs
    simp only [PyData.shown] at back
    exact PySem.P.repr_of_int hi (back s.heap _ _ fun _ _ e => e)
  | str x =>
    obtain ⟨t, rfl⟩ := rv
    simp only [PyData.shown] at back hz
    exact call_repr_gives (typeIs_str s x t) F.slot_str_repr F.entry_str_repr (F.args_str_repr_1 _) (gives_str_repr x t) (back s.heap _ _ fun _ _ e => e) (hx := hz)
  | @lst a ys ds _ hq ha =>
    cases rv
    have hz' : (listText (PyData.shownAll ds)).length ≤ sizeLine := by simpa only [PyData.shown] using hz
    obtain ⟨its, rv, ⟨o, n, ho, hc, _, hdd⟩, _⟩ := I.list hq
    obtain ⟨as, bs, rr, hb, hk⟩ := (Dq.rks I ds _ its ha rv (by simpa [PyData.showable] using hs) fun t ht => Nat.le_trans (listText_mem_le ht) hz').ex
    have r1 : Reads s.heap (.ref a) (.list ds) (a :: as) := .list ho hc hdd rr
    have off : a ∉ bs := not_mem_of_deeper r1 (by simp only [PyData.depth]; omega) hb
    simp only [PyData.shown] at back
    simp only [PyData.depth] at hdep
    refine call_repr_slot (by omega) ⟨o, ho, hc⟩ F.slot_list_repr.toG ?_
    cases its with
    | nil =>
      cases rr
      simp only [PyData.shownAll, listText_nil] at back
      exact call_list_repr_empty ⟨o, ho, hc⟩ ho hdd ⟨_, _, rfl, back s.heap _ _ fun _ _ e => e⟩
    | cons y l =>
      exact call_list_reprK ho hc hdd off (by simpa using hk.length_eq) (fun i y e => hk.item i y (by simpa using e)) hgd (fun b _ => Clear.nil b) (by show X.A.units + 1 + _ < _; omega) (fun _ _ e => e) (fun h' t tk k => ⟨_, _, rfl, back h' t tk k⟩) hz'
  | @tup a ys ds _ hq ha =>
    cases rv
    have hz' : (tupleText (PyData.shownAll ds)).length ≤ sizeLine := by simpa only [PyData.shown] using hz
    obtain ⟨its, rv, ⟨o, ho, hc, n, hdd⟩, _⟩ := I.tuple hq
    obtain ⟨as, bs, rr, hb, hk⟩ := (Dq.rks I ds _ its ha rv (by simpa [PyData.showable] using hs) fun t ht => Nat.le_trans (tupleText_mem_le ht) hz').ex
    have r1 : Reads s.heap (.ref a) (.tuple ds) as := .tuple ho hc hdd rr
    have off : a ∉ bs := not_mem_of_deeper r1 (by simp only [PyData.depth]; omega) hb
    simp only [PyData.shown] at back
    simp only [PyData.depth] at hdep
    refine call_repr_slot (by omega) ⟨o, ho, hc⟩ F.slot_tuple_repr ?_
    exact call_tuple_reprK ho hc hdd off hk hgd (fun b _ => Clear.nil b) (by show X.A.units + 1 + _ < _; omega) (fun _ _ e => e) (fun h' t tk k => ⟨_, _, rfl, back h' t tk k⟩) hz'
  | @dct a kvs ds _ hq ha =>
    cases rv
    have hz' : (dictText (PyData.shownKv ds)).length ≤ sizeLine := by simpa only [PyData.shown] using hz
    obtain ⟨_, hsys, vs, rv, o, es, ep, ho, hx, hdd, _, hp, _⟩ := dk_rd I.hok hq
    obtain ⟨q1, q2⟩ := Dq.rkv I ds _ vs es.toList ha rv hp (by simpa [PyData.showable] using hs) fun t ht => Nat.le_trans (dictText_mem_le ht) hz'
    obtain ⟨as, bs, rr1, hb1, hk1⟩ := q1.ex
    obtain ⟨cs, es', rr2, hb2, hk2⟩ := q2.ex
    have r1 : Reads s.heap (.ref a) (.dict ds) (a :: as ++ cs) := .dict ho hx.1 hdd rr1 rr2
    have hb : ReadAtMost s.heap (PyData.depthKv ds) (bs ++ es') := (hb1.mono (PyData.depthAll_keys_le ds)).append (hb2.mono (PyData.depthAll_vals_le ds))
    have off : a ∉ bs ++ es' := not_mem_of_deeper r1 (by simp only [PyData.depth]; omega) hb
    simp only [PyData.shown, PyData.shownKv_eq] at back
    simp only [PyData.depth] at hdep
    refine call_repr_slot (by omega) ⟨o, ho, hx.1⟩ F.slot_dict_repr ?_
    exact call_dict_reprK ho hx.1 hdd hsys off (ReprEntriesK.of_two es.toList _ _ (hk1.more_le (fun b hb => List.mem_append_left _ hb) (PyData.depthAll_keys_le ds)) (hk2.more_le (fun b hb => List.mem_append_right _ hb) (PyData.depthAll_vals_le ds)))
      hgd (fun b _ => Clear.nil b) (by show X.A.units + 1 + _ < _; omega) (fun _ _ e => e) (fun h' t tk k => ⟨_, _, rfl, back h' t tk k⟩) (by rw [← PyData.shownKv_eq]; exact hz')
end
end Wd

set_option Elab.async false
set_option linter.all false
set_option maxRecDepth 100000
set_option maxHeartbeats 4000000
namespace Wd
open PySem PySem.Spec PyProof.Rows L2
def topS (i : Nat) : Stmt := PySem.Challenge.pw_weighdoors_k61_lots_that_cover.main.body.getD i (.Pass ⟨0, 0, 0, 0⟩)
structure CA where

/-! ### what the top has written -/
section
variable (P : Program) (w : World) (K : PySem.W.Frag) (mg : Str → Option Value) (base : Heap)
structure Txt (c : CA) : Prop where
  b_len : mg "len" = none
  b_abs : mg "abs" = none
  b_list : mg "list" = none
  b_range : mg "range" = none
  b_min : mg "min" = none
  b_max : mg "max" = none
  b_sum : mg "sum" = none
  b_sorted : mg "sorted" = none
  b_tuple : mg "tuple" = none
  b_int : mg "int" = none
  b_str : mg "str" = none
  b_isinstance : mg "isinstance" = none
  b_repr : mg "repr" = none
  b_dict : mg "dict" = none
  b_zip : mg "zip" = none
  b_KeyError : mg "KeyError" = none
  u_ : (P, w, K, base) = (P, w, K, base) := rfl
end
abbrev s__law_pen : Stmt := topS 5
theorem sc__law_pen : FnScope ["script"] ["script"] (C8.fnScope s__law_pen) := ⟨rfl, rfl, rfl, by decide +kernel, rfl, by decide +kernel, by decide +kernel⟩
abbrev s__law_draw : Stmt := topS 6
theorem sc__law_draw : FnScope ["pen", "many", "digit", "turn", "cell", "primes", "prime", "drawn"] ["pen", "many"] (C8.fnScope s__law_draw) := ⟨rfl, rfl, rfl, by decide +kernel, rfl, by decide +kernel, by decide +kernel⟩
abbrev s__law_pick : Stmt := topS 7
theorem sc__law_pick : FnScope ["pen", "some"] ["pen", "some"] (C8.fnScope s__law_pick) := ⟨rfl, rfl, rfl, by decide +kernel, rfl, by decide +kernel, by decide +kernel⟩
/-! ### the pen: n is at least the number of turns so far -/
def penK (c : Addr) (t r : Int) : HO := .dK [(.inr "cells", .ref c), (.inr "turn", .int t), (.inr "rest", .int r)]
def Pen (K : PySem.W.Frag) (H : Hp) (p : Addr) (q : Addr × List Int) (n : Nat) : Prop := ∃ t r : Int, H p = some (penK q.1 t r) ∧ SqL K H q.1 (q.2.map V.int) ∧ q.1 ≠ p ∧ q.2.length ≤ 63 ∧ 0 ≤ t ∧ t ≤ n ∧ 0 ≤ r
theorem pen_cells {H : Hp} {p c : Addr} {t r : Int} (h : H p = some (penK c t r)) : DGet H p (.str "cells") (some (.ref c)) := DGet.k (k := .inr "cells") h
theorem pen_turn {H : Hp} {p c : Addr} {t r : Int} (h : H p = some (penK c t r)) : DGet H p (.str "turn") (some (.int t)) := DGet.k (k := .inr "turn") h
theorem pen_rest {H : Hp} {p c : Addr} {t r : Int} (h : H p = some (penK c t r)) : DGet H p (.str "rest") (some (.int r)) := DGet.k (k := .inr "rest") h
theorem pen_putT {H : Hp} {p c : Addr} {t r : Int} (t' : Int) (h : H p = some (penK c t r)) : DPut H p (.str "turn") (.int t') (upd H p (penK c t' r)) := DPut.k (k := .inr "turn") h (by show 3 < sizeLine; decide)
theorem pen_putR {H : Hp} {p c : Addr} {t r : Int} (r' : Int) (h : H p = some (penK c t r)) : DPut H p (.str "rest") (.int r') (upd H p (penK c t r')) := DPut.k (k := .inr "rest") h (by show 3 < sizeLine; decide)
theorem seqL_upd {K : PySem.W.Frag} {H : Hp} {p c : Addr} {o o' : HO} {xs : List V} (ho : H p = some o) (nl : ∀ ys, o ≠ .lst ys) (nf : ∀ u y, o ≠ .frz u y) (h : SqL K H c xs) : SqL K (upd H p o') c xs := by
  rcases h with (h | ⟨u, h⟩) | h
  · exact .inl (.inl (by rw [upd_ne (fun e => by rw [e, ho] at h; exact nl _ (Option.some.inj h))]; exact h))
  · exact .inl (.inr ⟨u, by rw [upd_ne (fun e => by rw [e, ho] at h; exact nf _ _ (Option.some.inj h))]; exact h⟩)
  · exact .inr h
theorem pow60 {m : Int} (h0 : 0 < m) (h : m < 2 ^ 60) (i : Int) : CDivW i m := wide_div h0 (b := 60) (by omega) (by decide) (by decide)
theorem at_in {α : Type} {xs : List α} {i : Int} {j : Nat} {v : α} (e : i = j) (h : xs[j]? = some v) : atI xs i = some v := by subst e; exact atI_nat h
theorem atI_in {xs : List V} {i : Int} {j : Nat} {v : V} (e : i = j) (h : xs[j]? = some v) : atI xs i = some v := by subst e; exact atI_nat h
theorem seq_new {K : PySem.W.Frag} {H : Hp} {l c : Addr} {o : HO} {xs : List V} (n : H l = none) (h : SqL K H c xs) : SqL K (upd H l o) c xs :=
  Same.seq (fun b u e => by rw [upd_ne (ne_of_none e n)]; exact e) h
theorem dp_ints {K : PySem.W.Frag} {H : Hp} : ∀ L : List Int, DpAll K H (L.map V.int) (L.map PyData.int)
  | [] => .nil
  | x :: r => .cons (.int x) (dp_ints r)
theorem lay_ints : ∀ L : List Int, PyData.canLayAll0 (L.map PyData.int) = true
  | [] => by simp [PyData.canLayAll0]
  | x :: r => by simp [PyData.canLayAll0, PyData.canLay0, lay_ints r]
theorem depth_ints : ∀ L : List Int, PyData.depthAll (L.map PyData.int) ≤ 0
  | [] => by simp [PyData.depthAll]
  | x :: r => by
    have h := depth_ints r
    simp only [List.map_cons, PyData.depthAll, PyData.depth]
    omega
theorem shaped_ints (L : List Int) : SeqAt.shaped (.list (L.map PyData.int)) = true := by
  have h := depth_ints L
  show (PyData.canLay0 _ && decide _) = true
  rw [Bool.and_eq_true]
  exact ⟨by simp only [PyData.canLay0]; exact lay_ints L, decide_eq_true (by simp only [PyData.depth]; omega)⟩
theorem eqv_ints_nil (L : List Int) : (!PyData.eqv (.list (L.map PyData.int)) (.list [])) = !L.isEmpty := by
  cases L <;> simp [PyData.eqv, PyData.eqvAll]
theorem cut63 {xs : List V} (h : xs.length ≤ 63) : cutV xs none (some 63) = xs := by
  unfold cutV
  rw [show HT.sIx xs.length xs.length (some 63) = min 63 xs.length from HT.sIx_nat xs.length xs.length 63, HT.sIx_none]
  rw [show min 63 xs.length = xs.length by omega]
  simp
def primesL : List Int := [2147483647, 2147483629, 2147483587, 2147483579, 2147483563]
theorem primes_at (t : Int) : ∃ p : Int, atI (primesL.map V.int) (t % 5) = some (.int p) ∧ 2147483563 ≤ p ∧ p ≤ 2147483647 := by
  have h0 := Int.emod_nonneg t (show (5 : Int) ≠ 0 by decide)
  have h1 := Int.emod_lt_of_pos t (show (0 : Int) < 5 by decide)
  generalize t % 5 = i at h0 h1
  have h : i = 0 ∨ i = 1 ∨ i = 2 ∨ i = 3 ∨ i = 4 := by omega
  rcases h with rfl | rfl | rfl | rfl | rfl <;> exact ⟨_, rfl, by decide, by decide⟩
theorem Pen.same {K : PySem.W.Frag} {H H' : Hp} {p : Addr} {q : Addr × List Int} {n : Nat} (hp : Pen K H p q n) (s : Same H H') : Pen K H' p q n := by
  obtain ⟨t, r, h1, h2, h3⟩ := hp
  exact ⟨t, r, s _ _ h1, s.seq h2, h3⟩
theorem Pen.off {K : PySem.W.Frag} {H : Hp} {p l : Addr} {q : Addr × List Int} {n : Nat} (hp : Pen K H p q n) (n' : H l = none) : l ≠ p := by
  obtain ⟨t, r, h1, h2⟩ := hp
  intro e
  rw [e, h1] at n'
  cases n'
/-- what was free when the pen was made is written -/
theorem Pen.wr {K : PySem.W.Frag} {H G : Hp} {p l : Addr} {q : Addr × List Int} {m n : Nat} {u : HO} (hg : Pen K G p q n) (hp : Pen K H p q m) (nl : H l = none) : Pen K (upd G l u) p q n := by
  have ne := hp.off nl
  obtain ⟨t, r, h1, h2, h3⟩ := hg
  obtain ⟨t', r', g1, g2, g3⟩ := hp
  refine ⟨t, r, by rw [upd_ne ne.symm]; exact h1, ?_, h3⟩
  rcases g2 with (g2 | ⟨z, g2⟩) | g2
  · have nc : q.1 ≠ l := fun e => by rw [e, nl] at g2; cases g2
    rcases h2 with (h2 | ⟨z, h2⟩) | h2
    · exact .inl (.inl (by rw [upd_ne nc]; exact h2))
    · exact .inl (.inr ⟨z, by rw [upd_ne nc]; exact h2⟩)
    · exact .inr h2
  · have nc : q.1 ≠ l := fun e => by rw [e, nl] at g2; cases g2
    rcases h2 with (h2 | ⟨z, h2⟩) | h2
    · exact .inl (.inl (by rw [upd_ne nc]; exact h2))
    · exact .inl (.inr ⟨z, by rw [upd_ne nc]; exact h2⟩)
    · exact .inr h2
  · exact .inr g2
section
variable {P : Program} {w : World} {K : PySem.W.Frag} {mg : Str → Option Value} {base : Heap}
def spDraw (K : PySem.W.Frag) : Sp := fun vs H Q _ => ∃ (p : Addr) (qc : Addr × List Int) (m : Int) (n : Nat), vs = [.ref p, .int m] ∧ Pen K H p qc n ∧ n < 1000000 ∧ 0 < m ∧ m < 2 ^ 60 ∧
  ∀ (d : Int) (H' : Hp), 0 ≤ d → d < m → Kp p H H' → Pen K H' p qc (n + 1) → Q (.int d) H'
theorem c_draw {c : CA} (T : Txt P w K mg base c) {f : Addr} {fd : FuncData} (F : C8.Def K mg "_law_draw" s__law_draw f fd) (b : Binds K fd ["pen", "many"] []) : C8.Cal P w K mg base 1 "_law_draw" (spDraw K) [] := by
  refine C8.cal0 F b .nil sc__law_draw (fun vs H Q E h => ?_) (fun cdv A outer s H vs Q E hr h => ?_)
  · obtain ⟨p, qc, m, n, rfl, _⟩ := h
    rfl
  · obtain ⟨p, ⟨c, L⟩, m, n, rfl, hp, hn, hm, hm2, q⟩ := h
    have hu := hu_of hr
    have hu6 := hu64 hr
    refine ⟨_, (pss_cons (ps_if (pt_cmpR (op_gt) (pe_dget hu (pv 0) pe_str (fun _ _ => rfl)) pe_int (nomark _)) (pss_cons (ps_set (i := 2) sc__law_draw.nd rfl (.inl rfl) (pe_op (op_mod) (pe_dget hu (pv 0) pe_str (fun _ _ => rfl)) (pv 1)))
  (pss_cons (ps_dput hu (pv 0) pe_str (pe_op (op_fdivW) (pe_dget hu (pv 0) pe_str (fun _ _ => rfl)) (pv 1)) rfl)
  (pss_one (ps_ret (pv 2))))) pss_nil)
  (pss_cons (ps_set (i := 3) sc__law_draw.nd rfl (.inl rfl) (pe_dget hu (pv 0) pe_str (fun _ _ => rfl)))
  (pss_cons (ps_dput hu (pv 0) pe_str (pe_op (op_addG (K := K)) (pv 3) pe_int) rfl)
  (pss_cons (ps_set (i := 4) sc__law_draw.nd rfl (.inl rfl) (pe_op (op_addG (K := K)) (pe_op (op_mulG (K := K)) pe_int (pv 3)) pe_int))
  (C8.pss_cut (ps_if (pt_cmpR (op_neX (K := K) hu6) (pe_dget hu (pv 0) pe_str (fun _ _ => rfl)) (pe_lst pa_nil) (nomark _)) (pss_one (ps_set (i := 4) sc__law_draw.nd rfl (.inl rfl) (pe_ix (ixG (K := K)) (pe_dget hu (pv 0) pe_str (fun _ _ => rfl)) (pe_op (op_mod) (pv 3) (pe_callB (call_lenG (K := K)) (by rfl) T.b_len bt_len (pa_cons (pe_dget hu (pv 0) pe_str (fun _ _ => rfl)) pa_nil))) (fun _ _ => rfl)))) pss_nil)
  (C8.pss_cut (ps_if (PW.pt (pw_and (pt_cmpR (op_lt) (pv 3) (pe_callB (call_lenG (K := K)) (by rfl) T.b_len bt_len (pa_cons (pe_dget hu (pv 0) pe_str (fun _ _ => rfl)) pa_nil)) (nomark _)) (pw_and1 (pt_cmpR (op_ge) (pe_callB (call_abs) (by rfl) T.b_abs bt_abs (pa_cons (pv 4) pa_nil)) (pe_op (op_pow) pe_int pe_int) (nomark _))))) (pss_cons (ps_dput hu (pv 0) pe_str (pe_op (op_fdivW) (pe_op (op_sub) (pe_callB (call_abs) (by rfl) T.b_abs bt_abs (pa_cons (pv 4) pa_nil)) (pe_op (op_pow) pe_int pe_int)) (pv 1)) rfl)
  (pss_one (ps_ret (pe_op (op_mod) (pe_op (op_sub) (pe_callB (call_abs) (by rfl) T.b_abs bt_abs (pa_cons (pv 4) pa_nil)) (pe_op (op_pow) pe_int pe_int)) (pv 1))))) pss_nil)
  (pss_cons (ps_set (i := 5) sc__law_draw.nd rfl (.inl rfl) (pe_lst (pa_cons pe_int (pa_cons pe_int (pa_cons pe_int (pa_cons pe_int (pa_cons pe_int pa_nil)))))))
  (pss_cons (ps_set (i := 6) sc__law_draw.nd rfl (.inl rfl) (pe_ix (ixG (K := K)) (pv 5) (pe_op (op_mod) (pv 3) pe_int) (fun _ _ => rfl)))
  (pss_cons (ps_set (i := 7) sc__law_draw.nd rfl (.inl rfl) (pe_op (op_mod) (pe_op (op_addG (K := K)) (pe_op (op_addG (K := K)) (pe_op (op_mulG (K := K)) (pe_op (op_mod) (pv 4) (pv 6)) pe_int) (pe_op (op_mulG (K := K)) (pe_op (op_mulG (K := K)) pe_int (pv 3)) (pv 3))) pe_int) (pv 6)))
  (pss_cons (ps_set (i := 7) sc__law_draw.nd rfl (.inl rfl) (pe_op (op_mod) (pe_op (op_mulG (K := K)) (pv 7) (pe_op (op_addG (K := K)) (pv 7) pe_int)) (pe_ix (ixG (K := K)) (pv 5) (pe_op (op_mod) (pe_op (op_addG (K := K)) (pv 3) pe_int) pe_int) (fun _ _ => rfl))))
  (pss_one (ps_ret (pe_op (op_mod) (pe_op (op_fdivW) (pe_op (op_mod) (pe_op (op_mulG (K := K)) (pv 7) (pv 7)) pe_int) pe_int) (pv 1)))))))))))))), ?_⟩
    obtain ⟨t, r, hH, hc, hcp, hL, ht0, htn, hr0⟩ := hp
    dsimp only at hH hc hcp hL
    refine ⟨.ref p, rfl, p, .int r, rfl, pen_rest hH, r, 0, rfl, rfl, _, rfl, ite2 (fun e => ?_) (fun e => ?_)⟩
    · -- a great cell's next digit
      refine ⟨.ref p, rfl, p, .int r, rfl, pen_rest hH, .int m, rfl, r, m, rfl, rfl, hm, ?_⟩
      refine ⟨.ref p, rfl, p, .int r, rfl, pen_rest hH, .int m, rfl, r, m, rfl, rfl, pow60 hm hm2 r, .ref p, rfl, p, _, rfl, pen_putR _ hH, _, rfl, ?_⟩
      exact q _ _ (Int.emod_nonneg _ (by omega)) (Int.emod_lt_of_pos _ hm) (Kp.at (Kp.refl _ _)) ⟨t, r / m, upd_same, seqL_upd hH (fun _ z => by cases z) (fun _ _ z => by cases z) hc, hcp, hL, ht0, by omega, Int.ediv_nonneg hr0 (by omega)⟩
    -- the turn
    refine ⟨.ref p, rfl, p, .int t, rfl, pen_turn hH, ?_⟩
    refine ⟨.int t, rfl, .ref p, rfl, p, _, rfl, pen_putT _ hH, ?_⟩
    have k1 : Kp p H (upd H p (penK c (t + 1) r)) := Kp.at (Kp.refl _ _)
    have h1 : (upd H p (penK c (t + 1) r)) p = some (penK c (t + 1) r) := upd_same
    have c1 : SqL K (upd H p (penK c (t + 1) r)) c (L.map V.int) := seqL_upd hH (fun _ z => by cases z) (fun _ _ z => by cases z) hc
    generalize upd H p (penK c (t + 1) r) = H1 at k1 h1 c1 ⊢
    refine ⟨.int t, rfl, .inl ⟨by decide, by decide⟩, ?_⟩
    -- if pen['cells'] != []
    refine ⟨fun σ H' => ∃ (x : Int) (d5 d6 d7 d8 : Option V), σ = [some (.ref p), some (.int m), d5, some (.int t), some (.int x), d6, d7, d8] ∧ Kp p H H' ∧ H' p = some (penK c (t + 1) r) ∧ SqL K H' c (L.map V.int), ?_, ?_⟩
    · refine ⟨.ref p, rfl, p, .ref c, rfl, pen_cells h1, Nat.zero_le _, fun l nl => ?_⟩
      have k2 := k1.new nl (o := .lst [])
      have h2 : (upd H1 l (.lst [])) p = some (penK c (t + 1) r) := by rw [upd_ne (ne_of_none h1 nl)]; exact h1
      have c2 : SqL K (upd H1 l (.lst [])) c (L.map V.int) := seq_new nl c1
      have e2 : SqL K (upd H1 l (.lst [])) l [] := .inl (.inl upd_same)
      generalize upd H1 l (.lst []) = H2 at k2 h2 c2 e2 ⊢
      refine .inr ⟨_, _, .lst c2 (dp_ints L), .lst e2 .nil, shaped_ints L, by decide, _, rfl, ?_⟩
      rw [eqv_ints_nil]
      cases hLe : L with
      | nil => exact iteF ⟨_, _, _, _, _, rfl, k2, h2, hLe ▸ c2⟩
      | cons z zs =>
        refine iteT ?_
        rw [← hLe]
        have hlen : 0 < L.length := by rw [hLe]; simp
        have hlt : (t % (L.length : Int)).toNat < L.length := by
          have a1 := Int.emod_nonneg t (show (L.length : Int) ≠ 0 by omega)
          have a2 := Int.emod_lt_of_pos t (show (0 : Int) < L.length by omega)
          omega
        refine ⟨.ref p, rfl, p, .ref c, rfl, pen_cells h2, .int t, rfl, .ref p, rfl, p, .ref c, rfl, pen_cells h2, .inl ⟨_, .inl c2, t, _, rfl, rfl, ?_, .inl ⟨c, L.map V.int, _, .int L[(t % (L.length : Int)).toNat], rfl, rfl, c2, ?_, ?_⟩⟩⟩
        · show (0 : Int) < ((L.map V.int).length : Int)
          rw [List.length_map]; omega
        · refine atI_in (j := (t % (L.length : Int)).toNat) ?_ ?_
          · rw [List.length_map, Int.toNat_of_nonneg (Int.emod_nonneg _ (by omega))]
          · rw [List.getElem?_map, List.getElem?_eq_getElem hlt]; rfl
        · exact ⟨_, _, _, _, _, rfl, k2, h2, c2⟩
    · rintro σ' H2 ⟨x, d5, d6, d7, d8, rfl, k2, h2, c2⟩
      -- a great cell
      refine ⟨fun σ H' => σ = [some (.ref p), some (.int m), d5, some (.int t), some (.int x), d6, d7, d8] ∧ H' = H2, ?_, ?_⟩
      · refine ⟨.int t, rfl, .ref p, rfl, p, .ref c, rfl, pen_cells h2, .inl ⟨_, .inl c2, t, _, rfl, rfl, _, rfl, ite2 (fun e1 => ?_) (fun e1 => iteF ⟨rfl, rfl⟩)⟩⟩
        refine ⟨.int x, rfl, x, rfl, 10, 18, rfl, rfl, ⟨by decide, by decide, by decide⟩, _, _, rfl, rfl, _, rfl, ite2 (fun e2 => ?_) (fun e2 => ⟨rfl, rfl⟩)⟩
        have e3 := of_decide_eq_true e2
        refine ⟨.int x, rfl, x, rfl, 10, 18, rfl, rfl, ⟨by decide, by decide, by decide⟩, _, _, rfl, rfl, .int m, rfl, _, m, rfl, rfl, pow60 hm hm2 _, .ref p, rfl, p, _, rfl, pen_putR _ h2, ?_⟩
        refine ⟨.int x, rfl, x, rfl, 10, 18, rfl, rfl, ⟨by decide, by decide, by decide⟩, _, _, rfl, rfl, .int m, rfl, _, m, rfl, rfl, hm, ?_⟩
        exact q _ _ (Int.emod_nonneg _ (by omega)) (Int.emod_lt_of_pos _ hm) k2.at ⟨t + 1, _, upd_same, seqL_upd h2 (fun _ z => by cases z) (fun _ _ z => by cases z) c2, hcp, hL, by omega, by omega, Int.ediv_nonneg (by omega) (by omega)⟩
      · rintro σ3 H3 ⟨rfl, rfl⟩
        -- a mixed one
        refine ⟨(by show 5 ≤ sizeLine; decide), fun l nl => ?_⟩
        have k3 := k2.new nl (o := .lst (primesL.map V.int))
        have h3 : (upd H3 l (.lst (primesL.map V.int))) p = some (penK c (t + 1) r) := by rw [upd_ne (ne_of_none h2 nl)]; exact h2
        have c3 : SqL K (upd H3 l (.lst (primesL.map V.int))) c (L.map V.int) := seq_new nl c2
        have e3 : SqL K (upd H3 l (.lst (primesL.map V.int))) l (primesL.map V.int) := .inl (.inl upd_same)
        show _
        obtain ⟨p1, g1, g2, g3⟩ := primes_at t
        obtain ⟨p2, f1, f2, f3⟩ := primes_at (t + 3)
        refine ⟨.ref l, rfl, .int t, rfl, t, 5, rfl, rfl, (by show (0 : Int) < 5; decide), .inl ⟨l, _, _, _, rfl, rfl, e3, g1, ?_⟩⟩
        have a0 := Int.emod_nonneg x (show p1 ≠ 0 by omega)
        have a1 := Int.emod_lt_of_pos x (show 0 < p1 by omega)
        refine ⟨.int x, rfl, .int p1, rfl, x, p1, rfl, rfl, by omega, .inr ⟨by decide, by decide⟩, .int t, rfl, .inl ⟨by decide, by decide⟩, .int t, rfl, .inr ⟨by omega, by omega⟩, .int p1, rfl, _, p1, rfl, rfl, by omega, ?_⟩
        generalize (x % p1 * 69621 + 40692 * t * t + 11) = y1
        have b0 := Int.emod_nonneg y1 (show p1 ≠ 0 by omega)
        have b1 := Int.emod_lt_of_pos y1 (show 0 < p1 by omega)
        refine ⟨.int (y1 % p1), rfl, .int (y1 % p1), rfl, .inl ⟨by omega, by omega⟩, .ref l, rfl, .int t, rfl, t + 3, 5, rfl, rfl, (by show (0 : Int) < 5; decide), .inl ⟨l, _, _, _, rfl, rfl, e3, f1, _, p2, rfl, rfl, by omega, ?_⟩⟩
        have d0 := Int.emod_nonneg (y1 % p1 * (y1 % p1 + 48271)) (show p2 ≠ 0 by omega)
        have d1 := Int.emod_lt_of_pos (y1 % p1 * (y1 % p1 + 48271)) (show 0 < p2 by omega)
        refine ⟨.int (y1 % p1 * (y1 % p1 + 48271) % p2), rfl, .int (y1 % p1 * (y1 % p1 + 48271) % p2), rfl, .inl ⟨by omega, by omega⟩, _, 2147483549, rfl, rfl, (by show (0 : Int) < 2147483549; decide), _, 64, rfl, rfl, wide_div (b := 7) (by decide) (by decide) (by decide) (by decide), .int m, rfl, _, m, rfl, rfl, hm, ?_⟩
        exact q _ _ (Int.emod_nonneg _ (by omega)) (Int.emod_lt_of_pos _ hm) k3 ⟨t + 1, r, h3, c3, hcp, hL, by omega, by omega, hr0⟩
/-- what is picked of: a list, a tuple, a text -/
def PickOf (K : PySem.W.Frag) (H : Hp) (p : Addr) (sv : V) (xs : List V) : Prop := (∃ a, sv = .ref a ∧ a ≠ p ∧ (SqL K H a xs ∨ SqT K H a xs)) ∨ ∃ z : Str, sv = .str z ∧ z.length ≤ sizeLine ∧ xs = z.cps.toList.map fun o => V.str ⟨#[o]⟩
def spPick (K : PySem.W.Frag) : Sp := fun vs H Q _ => ∃ (p : Addr) (sv : V) (qc : Addr × List Int) (n : Nat) (xs : List V), vs = [.ref p, sv] ∧ Pen K H p qc n ∧ n < 1000000 ∧ PickOf K H p sv xs ∧ 0 < xs.length ∧ xs.length < 1000000 ∧
  ∀ (v : V) (H' : Hp), v ∈ xs → Kp p H H' → Pen K H' p qc (n + 1) → Q v H'
theorem c_pick {c : CA} (T : Txt P w K mg base c) (c_law_draw : C8.Cal P w K mg base 1 "_law_draw" (spDraw K) []) {f : Addr} {fd : FuncData} (F : C8.Def K mg "_law_pick" s__law_pick f fd) (b : Binds K fd ["pen", "some"] []) : C8.Cal P w K mg base 2 "_law_pick" (spPick K) [] := by
  refine C8.cal0 F b .nil sc__law_pick (fun vs H Q E h => ?_) (fun cdv A outer s H vs Q E hr h => ?_)
  · obtain ⟨p, sv, qc, n, xs, rfl, _⟩ := h
    rfl
  · obtain ⟨p, sv, qc, n, xs, rfl, hp, hn, hs, h0, h1, q⟩ := h
    have hu := hu_of hr
    have hu6 := hu64 hr
    refine ⟨_, (pss_one (ps_ret (pe_ix (ixG (K := K)) (pv 1) (C8.pe_c c_law_draw hr (by decide) (by rfl) (pa_cons (pv 0) (pa_cons (pe_callB (call_lenG (K := K)) (by rfl) T.b_len bt_len (pa_cons (pv 1) pa_nil)) pa_nil))) (fun _ _ => rfl)))), ?_⟩
    rcases hs with ⟨a, rfl, hap, hs⟩ | ⟨z, rfl, hz, rfl⟩
    · refine ⟨.ref a, rfl, .ref p, rfl, .ref a, rfl, .inl ⟨xs, hs, ?_⟩⟩
      refine ⟨p, qc, _, n, rfl, hp, hn, by omega, by omega, fun d H' d0 d1 k hp' => ?_⟩
      have hlt : d.toNat < xs.length := by omega
      have hat : atI xs d = some xs[d.toNat] := atI_in (by omega) (List.getElem?_eq_getElem hlt)
      rcases hs with hs | hs
      · refine .inl ⟨a, xs, d, _, rfl, rfl, ?_, hat, q _ _ (List.getElem_mem hlt) k hp'⟩
        rcases hs with (h | ⟨u, h⟩) | h
        · exact .inl (.inl (k _ _ hap h))
        · exact .inl (.inr ⟨u, k _ _ hap h⟩)
        · exact .inr h
      · refine .inr (.inl ⟨a, xs, d, _, rfl, rfl, ?_, hat, q _ _ (List.getElem_mem hlt) k hp'⟩)
        rcases hs with (h | ⟨u, h⟩) | h
        · exact .inl (.inl (k _ _ hap h))
        · exact .inl (.inr ⟨u, k _ _ hap h⟩)
        · exact .inr h
    · rw [List.length_map, Array.length_toList] at h0 h1
      refine ⟨.str z, rfl, .ref p, rfl, .str z, rfl, hz, ?_⟩
      refine ⟨p, qc, _, n, rfl, hp, hn, by show (0 : Int) < z.cps.size; omega, by show (z.cps.size : Int) < 2 ^ 60; omega, fun d H' d0 d1 k hp' => ?_⟩
      have hlt : d.toNat < z.cps.toList.length := by rw [Array.length_toList]; have : d < z.cps.size := d1; omega
      exact .inr (.inr ⟨z, d, _, rfl, rfl, hz, at_in (j := d.toNat) (by omega) (List.getElem?_eq_getElem hlt), q _ _ (List.mem_map.mpr ⟨_, List.getElem_mem hlt, rfl⟩) k hp'⟩)
def spPen (K : PySem.W.Frag) : Sp := fun vs H Q _ => ∃ (a : Addr) (L : List Int), vs = [.ref a] ∧ SqL K H a (L.map V.int) ∧ L.length ≤ 63 ∧
  ∀ (p : Addr) (qc : Addr × List Int) (H' : Hp), H p = none → Same H H' → Pen K H' p qc 0 → Q (.ref p) H'
theorem c_pen {c : CA} (T : Txt P w K mg base c) {f : Addr} {fd : FuncData} (F : C8.Def K mg "_law_pen" s__law_pen f fd) (b : Binds K fd ["script"] []) : C8.Cal P w K mg base 1 "_law_pen" (spPen K) [] := by
  refine C8.cal0 F b .nil sc__law_pen (fun vs H Q E h => ?_) (fun cdv A outer s H vs Q E hr h => ?_)
  · obtain ⟨a, L, rfl, _⟩ := h
    rfl
  · obtain ⟨a, L, rfl, hs, hl, q⟩ := h
    have hu := hu_of hr
    have hu6 := hu64 hr
    refine ⟨_, (pss_one (ps_ret (pe_disp (pps_cons pe_str (pe_callTy (call_list_of) (by rfl) T.b_list bt_list (pa_cons (pe_slice (sl_any (K := K)) (pv 0) po_none (po_some pe_int)) pa_nil)) (pps_cons pe_str pe_int (pps_cons pe_str pe_int pps_nil))) rfl rfl (by simp) (by decide)))), ?_⟩
    intro p np
    have s1 : Same H (upd H p (.dK [])) := fun b o e => by rw [upd_ne (ne_of_none e np)]; exact e
    -- the cells: a copy of the script
    refine ⟨.ref a, rfl, 63, rfl, .inl ⟨a, L.map V.int, rfl, s1.seq hs, fun l1 n1 => ?_⟩⟩
    rw [cut63 (by rw [List.length_map]; exact hl)]
    have s2 : Same (upd H p (.dK [])) (upd (upd H p (.dK [])) l1 (.lst (L.map V.int))) := fun b o e => by rw [upd_ne (ne_of_none e n1)]; exact e
    refine ⟨l1, L.map V.int, rfl, .inl (.inl (.inl upd_same)), fun l2 n2 => ?_⟩
    have s3 : Same (upd (upd H p (.dK [])) l1 (.lst (L.map V.int))) (upd (upd (upd H p (.dK [])) l1 (.lst (L.map V.int))) l2 (.lst (L.map V.int))) := fun b o e => by rw [upd_ne (ne_of_none e n2)]; exact e
    have hp3 : (upd (upd (upd H p (.dK [])) l1 (.lst (L.map V.int))) l2 (.lst (L.map V.int))) p = some (.dK []) := s3 _ _ (s2 _ _ upd_same)
    have hl2 : (upd (upd (upd H p (.dK [])) l1 (.lst (L.map V.int))) l2 (.lst (L.map V.int))) l2 = some (.lst (L.map V.int)) := upd_same
    have sA := s1.trans (s2.trans s3)
    generalize upd (upd (upd H p (.dK [])) l1 (.lst (L.map V.int))) l2 (.lst (L.map V.int)) = H3 at hp3 hl2 sA
    refine ⟨hp3, [(.inr "cells", .ref l2), (.inr "turn", .int 0), (.inr "rest", .int 0)], rfl, (by show 3 ≤ 15; decide), ?_⟩
    have ne : l2 ≠ p := ne_of hl2 hp3 (by intro z; cases z)
    refine q p (l2, L) _ np (fun b o e => ?_) ⟨0, 0, upd_same, .inl (.inl ?_), ne, hl, by decide, by decide, by decide⟩
    · rw [upd_ne (ne_of_none e np)]
      exact sA b o e
    · rw [upd_ne ne]
      exact hl2
end

end Wd

set_option Elab.async false
set_option linter.all false
set_option maxRecDepth 100000
set_option maxHeartbeats 4000000
/-! More rules by values: list(..) and tuple(..) of lists, tuples, dicts; data without dicts that may be compared. -/
namespace Wd
open PySem PySem.Spec PyProof.Rows L2
theorem same_mut {H H' : Hp} {p : Addr} {o : HO} (s : Same H H') (n : H p = none) : Same H (upd H' p o) := fun a u e => by
  rw [upd_ne (ne_of_none e n)]
  exact s a u e
theorem take_snoc {α : Type} {l : List α} {i : Nat} {x : α} (h : l[i]? = some x) : l.take (i + 1) = l.take i ++ [x] := by
  rw [List.take_add_one, h]
  rfl
theorem yes_if {σ : L2.St} {H : Hp} {A B : Bool → Hp → Prop} (h : A true H) : tYes σ H fun b H3 => if b = true then A b H3 else B b H3 := by
  show (if true = true then A true H else B true H)
  rw [if_pos rfl]
  exact h
def rListG (K : PySem.W.Frag) : List V → Hp → VK → Prop := fun xs H Q => ∃ p, xs = [.ref p] ∧ ((∃ ys, (SqL K H p ys ∨ SqT K H p ys) ∧ ∀ l, H l = none → Q (.ref l) (upd H l (.lst ys))) ∨
  ∃ kvs : List (Key × V), Rd H p (.dK kvs) ∧ ∀ l, H l = none → Q (.ref l) (upd H l (.lst (kvs.map fun kv => kV kv.1))))
theorem call_listG {X : Cx} {K : PySem.W.Frag} (hc : X.calm = true) (hK : X.K = K := by rfl) : CallR X (.type "list") (rListG K) := by
  subst hK
  intro pins s σ H xs us Q I r h
  obtain ⟨p, rfl, h⟩ := h
  rcases h with ⟨ys, h1, h2⟩ | ⟨kvs, h1, h2⟩
  · exact call_list_of pins s σ H _ us Q I r ⟨p, ys, rfl, h1, h2⟩
  · exact call_listD hc pins s σ H _ us Q I r ⟨p, kvs, rfl, h1, h2⟩
/-- may be compared -/
def Plain (d : PyData) : Prop := d.hasDict = false ∧ d.canLay0 = true ∧ d.depth ≤ 10
theorem plain_str {x : Str} (h : PyData.strOk x = true) : Plain (.str x) := ⟨rfl, by simp only [PyData.canLay0]; exact h, by simp only [PyData.depth]; omega⟩
theorem plain_int (i : Int) : Plain (.int i) := ⟨rfl, by simp only [PyData.canLay0], by simp only [PyData.depth]; omega⟩
theorem plain_none : Plain .none := ⟨rfl, by simp only [PyData.canLay0], by simp only [PyData.depth]; omega⟩
theorem plain_all {N : Addr → Prop} {K : PySem.W.Frag} {H : Hp} : ∀ {ys : List V}, (∀ y ∈ ys, ∃ d, Dq N K H y d ∧ Plain d) →
    ∃ ds, DpAll K H ys ds ∧ PyData.canLayAll0 ds = true ∧ PyData.depthAll ds ≤ 10 ∧ ds.length = ys.length
  | [], _ => ⟨[], .nil, by simp only [PyData.canLayAll0], by simp only [PyData.depthAll]; omega, rfl⟩
  | y :: ys, h => by
    obtain ⟨d, h1, h2, h3, h4⟩ := h y List.mem_cons_self
    obtain ⟨ds, g1, g2, g3, g4⟩ := plain_all (ys := ys) fun z hz => h z (List.mem_cons_of_mem _ hz)
    exact ⟨d :: ds, .cons (Dq.dp d y h2 h1) g1, by simp only [PyData.canLayAll0, h3, g2, Bool.and_self], by simp only [PyData.depthAll]; omega, by simp only [List.length_cons, g4]⟩
theorem shaped_list {ds : List PyData} (h : PyData.canLayAll0 ds = true) (h2 : PyData.depthAll ds ≤ 10) : SeqAt.shaped (.list ds) = true := by
  show (PyData.canLay0 _ && decide _) = true
  rw [Bool.and_eq_true]
  exact ⟨by simp only [PyData.canLay0]; exact h, decide_eq_true (by simp only [PyData.depth]; omega)⟩
theorem eqv_nil (ds : List PyData) : (!PyData.eqv (.list ds) (.list [])) = !ds.isEmpty := by
  cases ds <;> simp [PyData.eqv, PyData.eqvAll]
/-- xs != [] where [] was just made -/
theorem ne_nil {N : Addr → Prop} {K : PySem.W.Frag} {H : Hp} {a l : Addr} {ys : List V} {Q : VK} (ha : SqL K H a ys) (hl : SqL K H l []) (hy : ∀ y ∈ ys, ∃ d, Dq N K H y d ∧ Plain d) (q : Q (.bl (!ys.isEmpty)) H) : rNe (.ref a) (.ref l) H Q ∨ rNeD K (.ref a) (.ref l) H Q := by
  obtain ⟨ds, g1, g2, g3, g4⟩ := plain_all hy
  refine .inr ⟨.list ds, .list [], .lst ha g1, .lst hl .nil, shaped_list g2 g3, by decide, ?_⟩
  rw [eqv_nil]
  have : ds.isEmpty = ys.isEmpty := by cases ds <;> cases ys <;> simp_all
  rw [this]
  exact q
theorem seqI {n : Nat} {d : Int} (h0 : 0 ≤ d) (h1 : d < n) : seqIndex? d n = some d.toNat := by
  unfold seqIndex?
  simp only []
  split <;> first | (simp; omega) | skip
  all_goals omega
end Wd

set_option Elab.async false
set_option linter.all false
set_option maxRecDepth 100000
set_option maxHeartbeats 4000000
namespace Wd
open PySem PySem.Spec PyProof.Rows L2
section
variable {P : Program} {w : World} {K : PySem.W.Frag} {mg : Str → Option Value} {base : Heap}
def spHeft (K : PySem.W.Frag) : Sp := fun vs H Q _ => ∃ (p : Addr) (qc : Addr × List Int) (n : Nat), vs = [.ref p] ∧ Pen K H p qc n ∧ n < 1000000 ∧
  ∀ (h : Int) (H' : Hp), 0 ≤ h → h ≤ 9999999 → Kp p H H' → Pen K H' p qc (n + 1) → Q (.int h) H'
def heftsL : List Int := [0, 1, 1, 2, 3, 5, 9, 10, 4, 9999999]
theorem hefts_in {h : Int} (e : h ∈ heftsL) : 0 ≤ h ∧ h ≤ 9999999 := by
  revert h
  decide
/-! ### a drawn order -/
def Src (K : PySem.W.Frag) (H : Hp) (a : Addr) (ys : List V) : Prop := SqL K H a ys ∨ SqT K H a ys ∨ ∃ kvs : List (Key × V), Rd H a (.dK kvs) ∧ ys = kvs.map fun kv => kV kv.1
theorem perm_get {α : Type} : ∀ {xs : List α} {i : Nat} (h : i < xs.length), (xs[i] :: xs.eraseIdx i).Perm xs
  | x :: xs, 0, _ => List.Perm.refl _
  | x :: xs, i + 1, h => by
    have h' : i < xs.length := by simpa using h
    have := perm_get h'
    simp only [List.getElem_cons_succ, List.eraseIdx_cons_succ]
    exact (List.Perm.swap _ _ _).trans (this.cons x)
theorem small60 {n : Nat} (h : n < 1000000) : (n : Int) < 2 ^ 60 := by omega
theorem perm_move {α : Type} {xs ys : List α} {i : Nat} (h : i < xs.length) : (xs.eraseIdx i ++ (ys ++ [xs[i]])).Perm (xs ++ ys) := by
  have a : (xs.eraseIdx i ++ (ys ++ [xs[i]])).Perm ((xs[i] :: xs.eraseIdx i) ++ ys) := by
    rw [← List.append_assoc]
    exact (List.perm_append_singleton _ _).trans (List.Perm.refl _)
  exact a.trans ((perm_get h).append_right ys)
theorem small1000000 {n : Nat} (h : n < 1000000) : n < sizeLine := by rw [sizeLine_eq]; omega
theorem Src.list {K : PySem.W.Frag} {H : Hp} {a : Addr} {ys : List V} {C : List V → Prop} (h : Src K H a ys) (q : C ys) : (∃ ys, (SqL K H a ys ∨ SqT K H a ys) ∧ C ys) ∨ ∃ kvs : List (Key × V), Rd H a (.dK kvs) ∧ C (kvs.map fun kv => kV kv.1) := by
  rcases h with h | h | ⟨kvs, h, rfl⟩
  · exact .inl ⟨ys, .inl h, q⟩
  · exact .inl ⟨ys, .inr h, q⟩
  · exact .inr ⟨kvs, h, q⟩
theorem Dq.kp {K : PySem.W.Frag} {H H' : Hp} {p : Addr} {v : V} {d : PyData} (h : Dq (· ≠ p) K H v d) (k : Kp p H H') : Dq (· ≠ p) K H' v d := Dq.move (fun _ n => n) (fun a o n e => k a o n e) d v h
theorem DqAll.kp {K : PySem.W.Frag} {H H' : Hp} {p : Addr} {v : List V} {d : List PyData} (h : DqAll (· ≠ p) K H v d) (k : Kp p H H') : DqAll (· ≠ p) K H' v d := DqAll.move (fun _ n => n) (fun a o n e => k a o n e) d v h
end
end Wd

set_option Elab.async false
set_option linter.all false
set_option maxRecDepth 100000
set_option maxHeartbeats 4000000
/-! list(d.values()) -/
namespace Wd
open PySem PySem.Spec PyProof.Rows L2
def rValsL : V → Hp → VK → Prop := fun x H Q => ∃ (d : Addr) (kvs : List (Key × V)), x = .ref d ∧ H d = some (.dK kvs) ∧ ∀ l, H l = none → Q (.ref l) (upd H l (.lst (kvs.map fun kv => kv.2)))
def tListVals (te : TE) : TE := fun σ H Q => te σ H fun x H1 => rValsL x H1 Q
section
variable {X : Cx} {e : Expr} {te : TE} {p apos cpos pos : Pos}
theorem vals_by {kvs : List (Key × V)} {vs : List (Key × Value)} (kv : KV kvs vs) : ∀ {acc : List Value}, acc.length = vs.length → (∀ (j : Nat) (v : Value), acc[j]? = some v → ∃ k : Key, vs[j]? = some (k, v)) → Vals (kvs.map fun z => z.2) acc := by
  induction kv with
  | nil =>
    intro acc h _
    cases acc with
    | nil => exact .nil
    | cons _ _ => cases h
  | cons hd _ ih =>
    intro acc h g
    cases acc with
    | nil => cases h
    | cons a r =>
      obtain ⟨k, hk⟩ := g 0 a rfl
      cases hk
      exact .cons hd.2 (ih (Nat.succ.inj h) fun j v hj => g (j + 1) v hj)
theorem pe_listVals (hcalm : X.calm = true) (hte : PE X e te) (hgl : Gl X "list") (hmg : X.mg "list" = none) (ab : attributeBase e "values" X.env (eval e X.env) = eval e X.env := by rfl) (ln : (apos.endLine == cpos.line) = true := by rfl)
    (se : starEach [.Call (.Attribute e "values" apos) [] [] cpos] X.env = (false, eval (.Call (.Attribute e "values" apos) [] [] cpos) X.env) :: starEach [] X.env := by rfl) :
    PE X (.Call (.Name "list" p) [.Call (.Attribute e "values" apos) [] [] cpos] [] pos) (tListVals te) := by
  refine ⟨fun pins s σ H Q I q0 => ?_⟩
  refine wpAny_Call_Name_kw (ld_blt I hgl hmg bt_list (PyProof.Rows.callWith_type1 ?_ se rfl))
  rw [se]
  refine show wpAny _ _ (spliced ((false, eval (.Call (.Attribute e "values" apos) [] [] cpos) X.env) :: backTo pos (starEach [] X.env))) _ _ s from Calls.spliced_cons ?_
  refine wpAny_Call_method (T := "dict") (id := "dict.values") ab rfl ln F.plainAttrs_dict F.slot_dict_values F.type_dict_values (thn (hte.run pins s σ H _ I q0) fun u s1 ⟨x, H1, I1, rx, d, kvs, ex, hd, q⟩ => ?_)
  subst ex
  cases rx
  obtain ⟨hz, hs0, vs, kv, hdo⟩ := I1.hok d _ hd
  obtain ⟨ep, hat⟩ := hdo.dictAt
  have lk : kvs.length = vs.length := Paired.length kv
  have I2 : Inv X pins σ H1 { s1 with heap := s1.heap.push { cls := .type "dict_values", data := .fields #[.ref d] } } := I1.kept (t' := s1.toks) fun b ob q => Heap.get?_push_of_some _ q
  refine ⟨hdo.typeIs, hdo.mapOf.noDict, show wpAny _ _ (callWith cpos (.builtin "dict.values") [.ref d] [] []) _ X.xe s1 from ?_⟩
  refine method_meetsIn F.slot_dict_values F.entry_dict_values rfl (PySem.evalArgs_none ⟨rfl, hdo.typeIs, F.args_dict_values_1 _, _, meets_dict_values (mixKind X.prog X.w) d hs0, ⟨vs, hdo⟩, Calls.spliced_nil ?_⟩)
  refine PySem.W.kdl_call (PySem.W.kdl_values (knd := mixKind X.prog X.w) (kvs := vs) (d := d) (ep := ep)) (I1.ok.hd hcalm) ⟨⟨_, Heap.get?_push_size _ rfl, rfl, rfl⟩, hat.push _⟩ (by omega) fun h' tk acc c' hk hD hacc => ?_
  have hv : Vals (kvs.map fun z => z.2) acc.toList := vals_by kv (by rw [Array.length_toList]; exact hacc.1) fun j v g => hacc.2 j v (by rw [← Array.getElem?_toList]; exact g)
  refine ⟨.ref _, upd H1 _ (.lst (kvs.map fun z => z.2)), I2.laid (t' := tk) hk (Nat.le_refl _) (show ObjOk X.prog X.w _ _ _ (.lst (kvs.map fun z => z.2)) from ⟨by rw [List.length_map]; exact hz, acc.toList, c', hv, by rw [Array.toArray_toList]; exact hD⟩), rfl, q _ (I2.hok.fresh (Nat.le_refl _))⟩
end
/-! ### sum of a list or a tuple -/
def rSumG (K : PySem.W.Frag) : List V → Hp → VK → Prop := fun vs H Q => ∃ (a : Addr) (ns : List Int), vs = [V.ref a] ∧ (SqL K H a (ns.map V.int) ∨ SqT K H a (ns.map V.int)) ∧ Q (.int ns.sum) H
theorem cr_sumG {X : Cx} {K : PySem.W.Frag} (hc : X.calm = true) (hK : X.K = K := by rfl) : CallR X (.builtin "sum") (rSumG K) := by
  subst hK
  intro pins s σ H vs us Q I r h
  obtain ⟨a, ns, rfl, hs | hs, q⟩ := h
  · exact cr_sum hc pins s σ H _ us Q I r ⟨a, ns, rfl, hs, q⟩
  · obtain ⟨its, rv, ht, _⟩ := I.tuple hs
    rw [Vals.ref1 r]
    have hi := rv.ints
    obtain ⟨xs, e⟩ := hi.allInts.items
    have hn : numsOf (intItems xs).toList = ns := by rw [← e]; exact hi.numsOf
    rw [nums_intItems] at hn
    rw [e] at ht
    refine PySem.W.ktm_sumG (I.ok.hd hc) ht fun h' tk t' hk => ?_
    rw [preSum_eq, List.take_of_length_le (by simp), hn]
    exact ⟨.int _, H, I.kept hk, ⟨_, rfl⟩, q⟩
end Wd

set_option Elab.async false
set_option linter.all false
set_option maxRecDepth 100000
set_option maxHeartbeats 4000000
/-! sorted(xs, key=lambda x: x[0]): xs a list or a tuple of tuples that begin with a text. -/
namespace Wd
open PySem PySem.Spec PyProof.Rows L2 PySem.W
section
variable {prog : Program} {w : World} {A : Around} {E : Value → Shared → Prop} {s : Shared}
/-- sorted by its own list.sort, of a list or a tuple -/
theorem sorted_seq {T : String} {l : Addr} {o : Obj} {vs : List Value} {n : Nat} {kw : List (Str × Value)} {Q : Value → Shared → Prop} (hT : T = "list" ∨ T = "tuple") (ho : s.heap.get? l = some o) (hc : o.cls = .type T) (hd : o.data = .seq vs.toArray n)
    (hL : vs.length ≤ sizeLine) (a1 : argsOk "sorted" ⟨[.ref l], kw⟩) (a2 : ∀ x, argsOk "list.sort" ⟨[.ref x], kw⟩)
    (body : ∀ (h1 : Heap) (E' : Value → Shared → Prop), (∀ b u, s.heap.get? b = some u → h1.get? b = some u) →
      wpAny (model prog w) A.in1.in1 (Builtin.«list.sort» ⟨[.ref h1.objs.size], kw⟩) (fun f s' => f = .done (.ret .none) ∧ Q (.ref h1.objs.size) s') E' { s with heap := h1.push (seqObj "list" vs.toArray 0) }) :
    wpAny (model prog w) A (call (.builtin "sorted") [.ref l] kw) Q E s := by
  refine call_function_entry_kw kind_sorted plain_sorted entry_sorted a1 ?_
  unfold Builtin.«sorted»
  refine wpAny_bind (m := checkCount "sorted" 1 1 _) (wpAny_pure ?_)
  refine wpAny_bind (wpAny_collect_seq (hsz := by rw [List.size_toArray]; exact hL) l hT ho hc hd fun h1 k1 => ?_)
  refine wpAny_bind (wpAny_newList ?_ hL)
  refine wpAny_bind (wpAny_holding (wpAny_call_entry_kw slot_list_sort ⟨_, Heap.get?_push_size _ rfl, rfl⟩ entry_list_sort ?_ (a2 _)))
  refine wpAny_mono (body h1 _ k1) (fun f s' hf => ?_) fun _ _ e => e
  obtain ⟨rfl, hq⟩ := hf
  exact ⟨_, rfl, wpAny_pure ⟨_, rfl, hq⟩⟩
end
section
variable {prog : Program} {w : World} {A : Around} {s : Shared}
/-- (lambda x: x[0])(t), where t is a tuple that begins with a text -/
theorem lam_first {qual x : Str} {params : Arguments} {scope : Scope} {p1 p2 p3 : Pos} {k0 : Nat} {cl : List (Str × Addr)} {pm ctv : Value} {c' q t : Addr} {z : Str} {tz : Tok} {rest : List Value}
    (hroom : A.depth < recursionLimit) (ho : s.heap.get? q = some (kla_obj "<lambda>" qual params (.Subscript (.Name x p1) (.Constant (.int 0) k0 p2) p3) scope cl pm c' ctv)) (hcd : s.heap.CodeRec (.ref c') qual) (nl : s.heap.NoLimit)
    (ht : IsTup s.heap t (Value.str z tz :: rest).toArray) (hbd : ∀ v, bindArgs (kla_fn "<lambda>" qual params (.Subscript (.Name x p1) (.Constant (.int 0) k0 p2) p3) scope cl pm (.ref c') ctv) ⟨[v], []⟩ = pure [(x, v)])
    (hk : scope.kind = .function) (hco : scope.isCoroutine = false) (hgen : scope.isGenerator = false) (hcell : ∀ y ∈ scope.names, y.2 ≠ .cell) (hx : scope.names.lookup x = some .local) (hdb : (x == ("__debug__" : Str)) = false) :
    wpAny (model prog w) A (call (.ref q) [.ref t]) (KeyPure (.str z) s) (fun _ _ => False) s := by
  refine wpAny_call (kla_callFunE hroom ho rfl hco hgen rfl hcd ?_)
  rw [hbd]
  refine wpAny_pure (wpAny_newFunctionEnv hcell (fun y hy => ?_) (fun h1 hns hsb => ⟨nl.fresh _ hsb, ?_⟩) hk)
  · rw [List.mem_singleton.mp hy]
    exact hx
  have k1 : ∀ b o, s.heap.get? b = some o → h1.get? b = some o := fun b o e => hsb.extBut b o (Nat.ne_of_lt (Heap.lt_size e)) (Heap.get?_push_of_some _ e)
  have ht1 : IsTup h1 t (Value.str z tz :: rest).toArray := by
    obtain ⟨o, e, r⟩ := ht
    exact ⟨o, k1 _ _ e, r⟩
  refine kla_codeExpr ?_
  refine Subscript_ ?_
  refine wpAny_Name ?_ hdb
  refine wpAny_loadName_local hk hx hns (show [(x, Value.ref t)].reverse.lookup x = some (Value.ref t) by simp) ?_
  refine wpAny_Constant_int ?_
  refine subscriptTail_builtin ht1.typeIs slot_tuple_getitem.lookup ?_
  refine getItem_tuple ht1 (j := 0) (x := Value.str z tz) (by decide) (by decide) ?_ rfl ?_
  · show seqIndex? 0 _ = some 0
    unfold seqIndex?
    rw [List.size_toArray, List.length_cons]
    simp
  · exact ⟨_, _, rfl, k1, .str z tz⟩
end
/-- texts as Python orders them: x isn't behind y -/
def strLe {β : Type} (key : β → Str) : β → β → Bool := dataLe false fun x => PyData.str (key x)
section
variable {X : Cx} {pins : List (Addr × Obj)} {σ : L2.St} {H : Hp} {s : Shared}
theorem each_of_vals : ∀ {xs : List (V × Str)} {vs : List Value}, Vals (xs.map Prod.fst) vs → EachIs (fun u (x : V × Str) => RelV x.1 u) vs xs
  | [], _, .nil => .nil
  | _ :: _, _, .cons h r => .cons h (each_of_vals r)
theorem vals_of_each : ∀ {xs : List (V × Str)} {vs : List Value}, EachIs (fun u (x : V × Str) => RelV x.1 u) vs xs → Vals (xs.map Prod.fst) vs
  | _, _, .nil => .nil
  | _, _, .cons h r => .cons h (vals_of_each r)
theorem seq_obj {a : Addr} {xs : List V} (I : Inv X pins σ H s) (h : SqL X.K H a xs ∨ SqT X.K H a xs) : ∃ (T : String) (o : Obj) (its : List Value) (n : Nat), (T = "list" ∨ T = "tuple") ∧ s.heap.get? a = some o ∧ o.cls = .type T ∧ o.data = .seq its.toArray n ∧ Vals xs its ∧ xs.length ≤ sizeLine := by
  rcases h with h | h
  · obtain ⟨its, rv, pl, hz⟩ := I.list h
    obtain ⟨o, ho, hc, n, hd⟩ := pl.isList
    exact ⟨_, o, its, n, .inl rfl, ho, hc, hd, rv, hz⟩
  · obtain ⟨its, rv, pl, hz⟩ := I.tuple h
    obtain ⟨o, ho, hc, n, hd⟩ := pl
    exact ⟨_, o, its, n, .inr rfl, ho, hc, hd, rv, hz⟩
/-- sorted(xs, key=f): f tells a text of each thing and keeps all that was there -/
theorem sorted_keyI {a q : Addr} {xs : List (V × Str)} {Q : VK} (I : Inv X pins σ H s) (hs : SqL X.K H a (xs.map Prod.fst) ∨ SqT X.K H a (xs.map Prod.fst)) (hu : X.A.units + 64 < cLine)
    (turn : ∀ (u : Value) (x : V × Str), RelV x.1 u → x ∈ xs → ∀ (h : Heap) (tk : Nat), (∀ b o, s.heap.get? b = some o → h.get? b = some o) →
      wpAny (model X.prog X.w) X.A.in1.in1 (call (.ref q) [u]) (KeyPure (.str x.2) { s with heap := h, toks := tk }) (fun _ _ => False) { s with heap := h, toks := tk })
    (h : ∀ D, H D = none → Q (.ref D) (upd H D (.lst ((xs.mergeSort (strLe Prod.snd)).map Prod.fst)))) :
    wpAny (model X.prog X.w) X.A (call (.builtin "sorted") [.ref a] [(Str.ofString "key", .ref q)]) (EP X pins σ Q) X.xe s := by
  obtain ⟨T, o, its, n, hT, ho, hc, hd, rv, hz⟩ := seq_obj I hs
  have hl := rv.length
  rw [List.length_map] at hl hz
  have e := each_of_vals rv
  refine sorted_seq hT ho hc hd (by omega) (ksk_s1 _ _) (fun _ => ksk_l1 _ _) fun h1 E' k1 => ?_
  have I1 : Inv X pins σ H { s with heap := h1 } := I.kept (t' := s.toks) k1
  rw [ksk_t1]
  have al : AllAlike (xs.map fun x : V × Str => PyData.str x.2) := AllAlike.of fun _ _ => rfl
  have so : PySem.W.Sortable (xs.map fun x : V × Str => PyData.str x.2) := .inr fun d hd' => by
    obtain ⟨x, _, rfl⟩ := List.mem_map.mp hd'
    exact ⟨fun z => (by cases z), fun _ z => (by cases z)⟩
  have up : ∀ {g : Heap}, KeepsBut h1.objs.size (h1.push (seqObj "list" its.toArray 0)) g → ∀ b o, h1.get? b = some o → g.get? b = some o := fun {g} kp b u eb =>
    kp b u (Nat.ne_of_lt (Heap.lt_size eb)) (Heap.get?_push_of_some _ eb)
  refine keyH_tree (kz := xs.map fun x : V × Str => PyData.str x.2) (s := { s with heap := h1.push (seqObj "list" its.toArray 0) }) (n := 0) (Heap.get?_push_size _ rfl) (by rw [List.length_map]; exact hl) (by omega) al so (fun d hd' => ?_)
    (keyH_turns (s := { s with heap := h1.push (seqObj "list" its.toArray 0) }) (k := fun x : V × Str => PyData.str x.2) e fun v x hR hx g tk kp => turn v x hR hx g tk fun b u eb => up kp b u (k1 b u eb)) fun h' tk out c kp hD ko => ⟨rfl, ?_⟩
  · obtain ⟨x, _, rfl⟩ := List.mem_map.mp hd'
    show X.A.in1.in1.units + 0 < cLine
    have : X.A.in1.in1.units = X.A.units + 2 := rfl
    omega
  · have eo := keyedOut_each (fun x : V × Str => PyData.str x.2) ko e
    have vo : Vals ((xs.mergeSort (strLe Prod.snd)).map Prod.fst) out := vals_of_each eo
    have zo : ((xs.mergeSort (strLe Prod.snd)).map Prod.fst).length ≤ sizeLine := by rw [List.length_map, List.length_mergeSort]; exact hz
    refine ⟨.ref h1.objs.size, upd H h1.objs.size (.lst ((xs.mergeSort (strLe Prod.snd)).map Prod.fst)), I1.laid (t' := tk) (up kp) (Nat.le_refl _) (show ObjOk X.prog X.w _ _ _ (.lst ((xs.mergeSort (strLe Prod.snd)).map Prod.fst)) from ⟨zo, out, c, vo, hD⟩), rfl, h _ (I1.hok.fresh (Nat.le_refl _))⟩
end
/-! ### sorted(e, key=lambda x: x[0]) -/
def tSortKQ (K : PySem.W.Frag) (T : List (Addr × Str)) (Q : VK) : List V → Hp → Prop := fun vs H1 => match vs with
  | [v] => ∃ (a : Addr) (xs : List (V × Str)), v = .ref a ∧ LamX.Tabs T H1 ∧
    ∀ H2, LamX.ExtN H1 H2 → LamX.Tabs T H2 → (SqL K H2 a (xs.map Prod.fst) ∨ SqT K H2 a (xs.map Prod.fst)) ∧ (∀ y ∈ xs, ∃ (t : Addr) (rest : List V), y.1 = .ref t ∧ SqT K H2 t (.str y.2 :: rest)) ∧ ∀ D, H2 D = none → Q (.ref D) (upd H2 D (.lst ((xs.mergeSort (strLe Prod.snd)).map Prod.fst)))
  | _ => False
def tSortK (K : PySem.W.Frag) (T : List (Addr × Str)) (te : TE) : TE := fun σ H Q => te σ H fun v H1 => ∃ (a : Addr) (xs : List (V × Str)), v = .ref a ∧ LamX.Tabs T H1 ∧
  ∀ H2, LamX.ExtN H1 H2 → LamX.Tabs T H2 → (SqL K H2 a (xs.map Prod.fst) ∨ SqT K H2 a (xs.map Prod.fst)) ∧ (∀ y ∈ xs, ∃ (t : Addr) (rest : List V), y.1 = .ref t ∧ SqT K H2 t (.str y.2 :: rest)) ∧ ∀ D, H2 D = none → Q (.ref D) (upd H2 D (.lst ((xs.mergeSort (strLe Prod.snd)).map Prod.fst)))
section
variable {X : Cx}
theorem pe_sortedK {T : List (Addr × Str)} {y : Str} {c P : Addr} {k : Nat} {te : TE} {e : Expr} {params : Arguments} {scope : Scope} {k0 : Nat} {p lpos kpos pos p1 p2 p3 : Pos} {K : PySem.W.Frag} (hcalm : X.calm = true) (he : PE X e te) (hg : Gl X "sorted") (hm : X.mg "sorted" = none)
    (TB : LamX.TabB X.base X.mg c P) (hcode : X.env.code = .ref c) (hmT : (P, X.env.qual ++ "<lambda>") ∈ T) (hu : ∀ z ∈ T, z.1 = P → z.2 = X.env.qual ++ "<lambda>") (hr : Room (k + 2) X.A) 
    (hfree : ∀ z ∈ scope.names, z.2 = .free → ∃ cc, X.env.cells.lookup z.1 = some cc) (hdef : defaultsOf params X.env = ([], []))
    (hbd : ∀ (qual : Str) (cl : List (Str × Addr)) (pm cv ctv v : Value), bindArgs (kla_fn "<lambda>" qual params (.Subscript (.Name y p1) (.Constant (.int 0) k0 p2) p3) scope cl pm cv ctv) ⟨[v], []⟩ = pure [(y, v)])
    (hk : scope.kind = .function) (hco : scope.isCoroutine = false) (hgen : scope.isGenerator = false) (hcell : ∀ z ∈ scope.names, z.2 ≠ .cell) (hx : scope.names.lookup y = some .local) (hdb : (y == ("__debug__" : Str)) = false) (hK : X.K = K := by rfl)
    (hs1 : starEach [e] X.env = (false, eval e X.env) :: starEach [] X.env := by rfl) (hse : backTo pos (starEach [e] X.env) = (false, eval e X.env) :: backTo pos (starEach [] X.env) := by rfl) (hpl : (backTo pos (starEach [e] X.env)).any (·.1) = false := by rfl) :
    PE X (.Call (.Name "sorted" p) [e] [⟨some "key", .Lambda params (.Subscript (.Name y p1) (.Constant (.int 0) k0 p2) p3) scope lpos, kpos⟩] pos) (tSortK K T te) := by
  subst hK
  refine ⟨fun pins s σ H Q I q0 => ?_⟩
  refine wpAny_Call_Name_kw (ld_blt I hg hm bt_sorted ?_)
  refine PyProof.Rows.callWith_kw (thn ((pa_cons he pa_nil (hs := hs1) : PA X [e] (tCons te tNil)).run pos pins s σ H (tSortKQ X.K T Q) I q0) fun us s1 ⟨vs1, H1, I1, r1, q1⟩ => ?_) hse hpl (by rfl) (by rfl)
  obtain ⟨v1, rfl, q1⟩ : ∃ v, vs1 = [v] ∧ tSortKQ X.K T Q [v] H1 := by
    match vs1, q1 with
    | [v], q1 => exact ⟨v, rfl, q1⟩
  obtain ⟨a, xs, rfl, hT, q1⟩ := q1
  show wpAny _ _ (evalAll [(do let v ← eval (.Lambda params (.Subscript (.Name y p1) (.Constant (.int 0) k0 p2) p3) scope lpos) X.env; standAt pos; pure v)]) _ _ s1
  refine wpAny_evalAll_cons (wpAny_bind (LamX.lam_make2 I1 TB hcode hmT hu hT hdef hfree fun f c' pm ctv H2 s2 I2 eN T2 hf hfn hfr hco' => wpAny_bind (wpAny_standAt (wpAny_pure (wpAny_evalAll_nil ?_)))))
  obtain ⟨hs, hy, hq⟩ := q1 H2 eN T2
  obtain ⟨u, rfl, ru⟩ := vals1 r1
  cases ru
  show wpAny _ _ (call (.builtin "sorted") [.ref a] [(Str.ofString "key", .ref f)]) _ _ s2
  refine sorted_keyI I2 hs (hu64 hr) (fun v x rx hx' h tk kp => ?_) hq
  obtain ⟨t, rest, ex, ht⟩ := hy x hx'
  rw [ex] at rx
  cases rx
  obtain ⟨its, rv, pl, _⟩ := I2.tuple ht
  obtain ⟨z0, rest', rfl⟩ : ∃ z0 rest', its = z0 :: rest' := by
    cases its with
    | nil => cases rv
    | cons z0 rest' => exact ⟨z0, rest', rfl⟩
  have r0 : RelV (.str x.2) z0 := by
    cases rv with
    | cons r _ => exact r
  obtain ⟨tz, rfl⟩ := r0
  have pl' : IsTup h t (Value.str x.2 tz :: rest').toArray := by
    obtain ⟨o, eo, r⟩ := pl
    exact ⟨o, kp _ _ eo, r⟩
  obtain ⟨oc, vs0, t0, hc1, hc2, hc3⟩ := (show ∃ (oc : Obj) (vs : Array Value) (t : Tok), s2.heap.get? c' = some oc ∧ oc.data = .fields vs ∧ vs[1]? = some (.str (X.env.qual ++ "<lambda>") t) from (I2.hok _ _ hco').1)
  exact lam_first (s := { s2 with heap := h, toks := tk }) hr.in1.in1.depth (kp _ _ hf) ⟨c', oc, vs0, t0, rfl, kp _ _ hc1, hc2, hc3⟩ (((I2.ok.mod.nolimit).keeps I2.bk).keeps kp) pl' (fun v => hbd _ _ _ _ _ v) hk hco hgen hcell hx hdb
end
end Wd

set_option Elab.async false
set_option linter.all false
set_option maxRecDepth 100000
set_option maxHeartbeats 4000000
/-! Names by draws: lists of signs. -/
namespace Wd
open PySem PySem.Spec PyProof.Rows L2 SX
def IsName (l : List Nat) : Prop := 1 ≤ l.length ∧ l.length ≤ 8 ∧ ∀ c ∈ l, 97 ≤ c ∧ c ≤ 122
def NameOk (x : Str) : Prop := IsName x.cps.toList
theorem joinL_ones : ∀ zs : List Nat, TL.joinL [] (zs.map fun c => [c]) = zs
  | [] => rfl
  | [c] => rfl
  | c :: d :: r => by
    have := joinL_ones (d :: r)
    simp only [List.map_cons] at this ⊢
    rw [TL.joinL, this]
    simp
def nmAt (bl : List Nat) (at' first step k m : Nat) : List Nat := bl.take at' ++ (97 + (first + step * k) % 26) :: (bl.drop (at' + 1)).take m
theorem nmAt_len {bl : List Nat} {a f s k m : Nat} (h : a < bl.length) : a + 1 ≤ (nmAt bl a f s k m).length ∧ (nmAt bl a f s k m).length ≤ bl.length := by
  unfold nmAt
  rw [List.length_append, List.length_cons, List.length_take, List.length_take, List.length_drop]
  omega
theorem nmAt_name {bl : List Nat} {a f s k m : Nat} (h : a < bl.length) (hb : bl.length ≤ 8) (hc : ∀ c ∈ bl, 97 ≤ c ∧ c ≤ 122) : IsName (nmAt bl a f s k m) := by
  have hl := nmAt_len (f := f) (s := s) (k := k) (m := m) h
  refine ⟨by omega, by omega, fun c hm => ?_⟩
  unfold nmAt at hm
  rcases List.mem_append.mp hm with hm | hm
  · exact hc _ (List.mem_of_mem_take hm)
  · rcases List.mem_cons.mp hm with rfl | hm
    · have := Nat.mod_lt (f + s * k) (show 0 < 26 by decide)
      omega
    · exact hc _ (List.mem_of_mem_drop (List.mem_of_mem_take hm))
theorem nmAt_get {bl : List Nat} {a f s k m : Nat} (h : a < bl.length) : (nmAt bl a f s k m)[a]? = some (97 + (f + s * k) % 26) := by
  unfold nmAt
  have e : (bl.take a).length = a := by rw [List.length_take]; omega
  rw [List.getElem?_append_right (by omega), e, Nat.sub_self]
  rfl
def stepsL : List Nat := [1, 3, 5, 7, 9, 11, 15, 17, 19, 21, 23, 25]
theorem steps_apart {s : Nat} (h : s ∈ stepsL) {f j k : Nat} (hj : j < 18) (hk : k < 18) (e : (f + s * j) % 26 = (f + s * k) % 26) : j = k := by
  simp only [stepsL, List.mem_cons, List.mem_nil_iff, or_false] at h
  rcases h with rfl | rfl | rfl | rfl | rfl | rfl | rfl | rfl | rfl | rfl | rfl | rfl <;> omega
theorem nmAt_inj {bl : List Nat} {a f s j k m m' : Nat} (h : a < bl.length) (hs : s ∈ stepsL) (hj : j < 18) (hk : k < 18) (e : nmAt bl a f s j m = nmAt bl a f s k m') : j = k := by
  have h1 := nmAt_get (f := f) (s := s) (k := j) (m := m) h
  have h2 := nmAt_get (f := f) (s := s) (k := k) (m := m') h
  rw [e, h2] at h1
  have h3 := Option.some.inj h1
  exact steps_apart hs (f := f) hj hk (by omega)
theorem nodup_range {α : Type} {f : Nat → α} {n : Nat} (h : ∀ i j, i < n → j < n → f i = f j → i = j) : ((List.range n).map f).Nodup := by
  unfold List.Nodup
  rw [List.pairwise_map]
  refine List.Pairwise.imp_of_mem (R := (· < ·)) (fun {a b} ha hb hlt e => ?_) List.pairwise_lt_range
  have := h a b (List.mem_range.mp ha) (List.mem_range.mp hb) e
  omega
theorem nodup_set {α : Type} {xs : List α} {i : Nat} {v : α} (h : xs.Nodup) (hv : v ∉ xs) : (xs.set i v).Nodup := by
  induction xs generalizing i with
  | nil => exact h
  | cons x r ih =>
    cases i with
    | zero =>
      rw [List.set_cons_zero, List.nodup_cons]
      exact ⟨fun m => hv (List.mem_cons_of_mem _ m), (List.nodup_cons.mp h).2⟩
    | succ i =>
      rw [List.set_cons_succ, List.nodup_cons]
      refine ⟨fun m => ?_, ih (List.nodup_cons.mp h).2 fun m => hv (List.mem_cons_of_mem _ m)⟩
      rcases List.mem_or_eq_of_mem_set m with m | e
      · exact (List.nodup_cons.mp h).1 m
      · exact hv (e ▸ List.mem_cons_self)
theorem S_cps (l : List Nat) : (S l).cps.toList = l := by simp
theorem name_S {l : List Nat} (h : IsName l) : NameOk (S l) := by
  unfold NameOk
  rw [S_cps]
  exact h
theorem name_ok {x : Str} (h : NameOk x) : PyData.strOk x = true := by
  unfold PyData.strOk
  rw [← Array.all_toList, List.all_eq_true]
  intro c hc
  have := (h.2.2 c hc).2
  exact decide_eq_true (by omega)
theorem name_len {x : Str} (h : NameOk x) : 1 ≤ x.length ∧ x.length ≤ 8 := by
  have e : x.length = x.cps.toList.length := by simp [Str.length]
  rw [e]
  exact ⟨h.1, h.2.1⟩
/-! ### the words -/
def wordsA : List Str := ["room", "door", "stone", "walker", "go", "lift", "lay", "wait", "both", "on", "turn", "at", "lies"]
def wordsB : List Str := ["do", "heft", "rows", "wall", "open"]
def wordsL : List Str := wordsA ++ wordsB
def wordsCut (turn many : Nat) : List Str := ((wordsL ++ wordsL).drop turn).take many
instance (l : List Nat) : Decidable (IsName l) := by unfold IsName; infer_instance
instance (x : Str) : Decidable (NameOk x) := by unfold NameOk; infer_instance
theorem words_names : ∀ x ∈ wordsL ++ wordsL, NameOk x := by decide +kernel
theorem words_18 : ∀ t : Fin 18, (((wordsL ++ wordsL).drop t).take 18).Nodup := by decide +kernel
theorem wordsCut_ok {t m : Nat} (ht : t < 18) (hm : m ≤ 18) : (wordsCut t m).Nodup ∧ (wordsCut t m).length = m ∧ ∀ x ∈ wordsCut t m, NameOk x := by
  refine ⟨?_, ?_, fun x hx => words_names x (List.mem_of_mem_drop (List.mem_of_mem_take hx))⟩
  · have h := words_18 ⟨t, ht⟩
    have e : wordsCut t m = ((((wordsL ++ wordsL).drop t).take 18)).take m := by
      unfold wordsCut
      rw [List.take_take, Nat.min_eq_left hm]
    rw [e]
    exact h.sublist (List.take_sublist _ _)
  · unfold wordsCut
    rw [List.length_take, List.length_drop, show (wordsL ++ wordsL).length = 36 from rfl]
    omega
end Wd

set_option Elab.async false
set_option linter.all false
set_option maxRecDepth 100000
set_option maxHeartbeats 4000000
/-! Halls as plain data. -/
namespace Wd
open PySem PySem.Spec PyProof.Rows L2
/-- a row: the room, the least, the most if there is one -/
structure RowH where
  room : Str
  least : Int
  most : Option Int
def RowH.ok (r : RowH) : Prop := 0 ≤ r.least ∧ r.least ≤ 9999999 ∧ ∀ m, r.most = some m → r.least ≤ m ∧ m ≤ 9999999
def RowH.data (r : RowH) : PyData := .tuple [.str r.room, .int r.least, r.most.elim .none .int]
def optV (m : Option Int) : V := m.elim .non .int
def rowsData (rs : List RowH) : PyData := .tuple (rs.map RowH.data)
structure RowsOk (rooms : List Str) (rs : List RowH) : Prop where
  sub : (rs.map RowH.room).Sublist rooms
  few : rs.length ≤ 4
  each : ∀ r ∈ rs, r.ok
theorem dq_row {N : Addr → Prop} {K : PySem.W.Frag} {H : Hp} {a : Addr} {r : RowH} (n : N a) (e : SqT K H a [.str r.room, .int r.least, optV r.most]) : Dq N K H (.ref a) r.data := by
  refine .tup n e (.cons (.str _) (.cons (.int _) (.cons ?_ .nil)))
  cases r.most with
  | none => exact .non
  | some m => exact .int m
theorem depth_opt (m : Option Int) : (m.elim PyData.none PyData.int).depth = 0 := by
  cases m <;> rfl
theorem plain_row {r : RowH} (h : PyData.strOk r.room = true) : Plain r.data := by
  refine ⟨?_, ?_, ?_⟩
  · cases e : r.most <;> simp [RowH.data, e, PyData.hasDict, PyData.hasDictAll]
  · cases e : r.most <;> simp [RowH.data, e, PyData.canLay0, PyData.canLayAll0, h]
  · cases e : r.most <;> simp [RowH.data, e, PyData.depth, PyData.depthAll]
/-- a door -/
structure DoorH where
  name : Str
  one : Str
  other : Str
  way : Str
  rows : List RowH
def DoorH.data (d : DoorH) : PyData := .tuple [.str d.one, .str d.other, .str d.way, rowsData d.rows]
structure WalkH where
  name : Str
  heft : Int
  hands : Int
def WalkH.data (x : WalkH) : PyData := .tuple [.str x.name, .int x.heft, .int x.hands]
def WalkH.ok (x : WalkH) : Prop := 0 ≤ x.heft ∧ x.heft ≤ 9999999 ∧ (x.hands = 0 ∨ x.hands = 1 ∨ x.hands = 2 ∨ x.hands = 3 ∨ x.hands = 9)
structure HallH where
  rooms : List Str
  doors : List DoorH
  stones : List (Str × Int)
  walkers : List WalkH
structure DoorOk (rooms : List Str) (d : DoorH) : Prop where
  one : d.one ∈ rooms
  other : d.other ∈ rooms
  apart : d.one ≠ d.other
  way : (d.way = "both" ∧ sortedS [d.one, d.other] = true) ∨ d.way = "on"
  rows : RowsOk rooms d.rows
def HallH.names (h : HallH) : List Str := h.rooms ++ (h.walkers.map WalkH.name ++ (h.stones.map Prod.fst ++ h.doors.map DoorH.name))
structure HallOk (sr sd ss sw : Nat) (h : HallH) : Prop where
  r1 : 1 ≤ h.rooms.length
  r2 : h.rooms.length ≤ sr
  r3 : sortedS h.rooms = true
  d0 : h.rooms.length = 1 → h.doors = []
  d2 : h.doors.length ≤ sd
  d3 : sortedS (h.doors.map DoorH.name) = true
  d4 : ∀ d ∈ h.doors, DoorOk h.rooms d
  s2 : h.stones.length ≤ ss
  s3 : sortedS (h.stones.map Prod.fst) = true
  s4 : ∀ s ∈ h.stones, 0 ≤ s.2 ∧ s.2 ≤ 9999999
  w1 : 1 ≤ h.walkers.length
  w2 : h.walkers.length ≤ sw
  w3 : ∀ x ∈ h.walkers, x.ok
  n1 : h.names.Nodup
  n2 : ∀ x ∈ h.names, NameOk x
def doorsKv (ds : List DoorH) : List (PyData × PyData) := ds.map fun d => (.str d.name, d.data)
def stonesKv (ss : List (Str × Int)) : List (Key × V) := ss.map fun s => (.inr s.1, .int s.2)
/-- a hall as the law's dict -/
def HallAt (N : Addr → Prop) (K : PySem.W.Frag) (H : Hp) (h : Addr) (x : HallH) : Prop := ∃ (d s w r : Addr) (dkv : List (Key × V)) (wvs : List V), N h ∧ N d ∧ N s ∧ N w ∧ N r ∧
  H h = some (.dK [(.inr "doors", .ref d), (.inr "stones", .ref s), (.inr "walkers", .ref w), (.inr "rooms", .ref r)]) ∧
  H d = some (.dK dkv) ∧ DqKv N K H dkv (doorsKv x.doors) ∧ H s = some (.dK (stonesKv x.stones)) ∧ H w = some (.lst wvs) ∧ DqAll N K H wvs (x.walkers.map WalkH.data) ∧ H r = some (.lst (x.rooms.map V.str))
theorem HallAt.move {N N' : Addr → Prop} {K : PySem.W.Frag} {H H' : Hp} {h : Addr} {x : HallH} (n : ∀ a, N a → N' a) (s : ∀ a o, N a → H a = some o → H' a = some o) (hh : HallAt N K H h x) : HallAt N' K H' h x := by
  obtain ⟨d, st, w, r, dkv, wvs, n1, n2, n3, n4, n5, h1, h2, h3, h4, h5, h6, h7⟩ := hh
  exact ⟨d, st, w, r, dkv, wvs, n _ n1, n _ n2, n _ n3, n _ n4, n _ n5, s _ _ n1 h1, s _ _ n2 h2, DqKv.move n s _ _ h3, s _ _ n3 h4, s _ _ n4 h5, DqAll.move n s _ _ h6, s _ _ n5 h7⟩
theorem valV_off {k : Key} : ∀ {kvs : List (Key × V)}, k ∉ kvs.map (·.1) → valV kvs k = none
  | [], _ => rfl
  | x :: r, h => by
    rw [valV_neg (fun e => h (by rw [← e]; exact List.mem_cons_self)), valV_off fun m => h (List.mem_cons_of_mem _ m)]
theorem stonesKv_keys (ss : List (Str × Int)) : (stonesKv ss).map (·.1) = (ss.map Prod.fst).map Sum.inr := by
  unfold stonesKv
  rw [List.map_map, List.map_map]
  rfl
theorem not_in_take {xs : List Str} (h : xs.Nodup) {i : Nat} (hi : i < xs.length) : xs[i] ∉ xs.take i := by
  intro m
  have e : xs.take (i + 1) = xs.take i ++ [xs[i]] := by rw [List.take_add_one, List.getElem?_eq_getElem hi]; rfl
  have n := h.sublist (List.take_sublist (i + 1) xs)
  rw [e] at n
  exact (List.nodup_append.mp n).2.2 _ m _ List.mem_cons_self rfl
theorem inr_in {x : Str} {xs : List Str} (h : (Sum.inr x : Key) ∈ xs.map Sum.inr) : x ∈ xs := by
  obtain ⟨y, hy, e⟩ := List.mem_map.mp h
  exact (Sum.inr.inj e) ▸ hy
theorem walk_inv {N : Addr → Prop} {K : PySem.W.Frag} {H : Hp} {v : V} {x : WalkH} (h : Dq N K H v x.data) : ∃ a, v = .ref a ∧ N a ∧ SqT K H a [.str x.name, .int x.heft, .int x.hands] := by
  cases h with
  | tup n e d =>
    cases d with
    | cons h1 d =>
      cases d with
      | cons h2 d =>
        cases d with
        | cons h3 d =>
          cases d
          cases h1
          cases h2
          cases h3
          exact ⟨_, rfl, n, e⟩
theorem DqAll.get {N : Addr → Prop} {K : PySem.W.Frag} {H : Hp} : ∀ {vs : List V} {ds : List PyData} {i : Nat} {v : V}, DqAll N K H vs ds → vs[i]? = some v → ∃ d, ds[i]? = some d ∧ Dq N K H v d
  | _, _, 0, v, .cons h _, e => by
    cases e
    exact ⟨_, rfl, h⟩
  | _, _, i + 1, v, .cons _ r, e => DqAll.get (i := i) r e
/-- what is no dict -/
def NoDk (o : HO) : Prop := ∀ kvs, o ≠ .dK kvs
section
variable {N N' : Addr → Prop} {K : PySem.W.Frag} {H H' : Hp}
theorem sqLD {a : Addr} {xs : List V} (s : ∀ o, NoDk o → H a = some o → H' a = some o) (h : SqL K H a xs) : SqL K H' a xs := by
  rcases h with (h | ⟨o, h⟩) | h
  · exact .inl (.inl (s _ (fun _ z => by cases z) h))
  · exact .inl (.inr ⟨o, s _ (fun _ z => by cases z) h⟩)
  · exact .inr h
theorem sqTD {a : Addr} {xs : List V} (s : ∀ o, NoDk o → H a = some o → H' a = some o) (h : SqT K H a xs) : SqT K H' a xs := by
  rcases h with (h | ⟨o, h⟩) | h
  · exact .inl (.inl (s _ (fun _ z => by cases z) h))
  · exact .inl (.inr ⟨o, s _ (fun _ z => by cases z) h⟩)
  · exact .inr h
mutual
theorem Dq.moveD (n : ∀ a, N a → N' a) (s : ∀ a o, N a → NoDk o → H a = some o → H' a = some o) : ∀ (d : PyData) (v : V), d.hasDict = false → Dq N K H v d → Dq N' K H' v d
  | .none, _, _, h => by cases h; exact .non
  | .bool b, _, _, h => by cases h; exact .bl b
  | .int i, _, _, h => by cases h; exact .int i
  | .str x, _, _, h => by cases h; exact .str x
  | .list ds, _, f, h => by
    cases h with
    | lst z hq ha => exact .lst (n _ z) (sqLD (fun o => s _ o z) hq) (DqAll.moveD n s ds _ (by simpa [PyData.hasDict] using f) ha)
  | .tuple ds, _, f, h => by
    cases h with
    | tup z hq ha => exact .tup (n _ z) (sqTD (fun o => s _ o z) hq) (DqAll.moveD n s ds _ (by simpa [PyData.hasDict] using f) ha)
  | .dict ds, _, f, _ => by simp [PyData.hasDict] at f
theorem DqAll.moveD (n : ∀ a, N a → N' a) (s : ∀ a o, N a → NoDk o → H a = some o → H' a = some o) : ∀ (ds : List PyData) (vs : List V), PyData.hasDictAll ds = false → DqAll N K H vs ds → DqAll N' K H' vs ds
  | [], _, _, h => by cases h; exact .nil
  | d :: ds, _, f, h => by
    have f' : d.hasDict = false ∧ PyData.hasDictAll ds = false := by simpa [PyData.hasDictAll] using f
    cases h with
    | cons h1 h2 => exact .cons (Dq.moveD n s d _ f'.1 h1) (DqAll.moveD n s ds _ f'.2 h2)
end
theorem walks_noDict : ∀ ws : List WalkH, PyData.hasDictAll (ws.map WalkH.data) = false
  | [] => rfl
  | x :: r => by
    rw [List.map_cons]
    simp only [PyData.hasDictAll, walks_noDict r, Bool.or_false]
    rfl
theorem rows_noDict : ∀ rs : List RowH, PyData.hasDictAll (rs.map RowH.data) = false
  | [] => rfl
  | x :: r => by
    rw [List.map_cons]
    simp only [PyData.hasDictAll, rows_noDict r, Bool.or_false]
    cases e : x.most <;> simp [RowH.data, e, PyData.hasDict, PyData.hasDictAll]
theorem door_noDict (d : DoorH) : d.data.hasDict = false := by
  simp only [DoorH.data, rowsData, PyData.hasDict, PyData.hasDictAll, rows_noDict, Bool.or_false]
theorem DqKv.moveD (n : ∀ a, N a → N' a) (s : ∀ a o, N a → NoDk o → H a = some o → H' a = some o) : ∀ (ds : List DoorH) (kvs : List (Key × V)), DqKv N K H kvs (doorsKv ds) → DqKv N' K H' kvs (doorsKv ds)
  | [], _, h => by cases h; exact .nil
  | d :: ds, kvs, h => by
    have e : doorsKv (d :: ds) = (.str d.name, d.data) :: doorsKv ds := rfl
    rw [e] at h ⊢
    generalize hx : PyData.str d.name = x at h ⊢
    cases h with
    | cons h1 h2 => exact .cons (Dq.moveD n s _ _ (door_noDict d) h1) (DqKv.moveD n s ds _ h2)
theorem DqKv.snoc {k : Key} {v : V} {d : PyData} : ∀ {kvs : List (Key × V)} {ds : List (PyData × PyData)}, DqKv N K H kvs ds → Dq N K H v d → DqKv N K H (kvs ++ [(k, v)]) (ds ++ [(keyD k, d)])
  | _, _, .nil, x => .cons x .nil
  | _, _, .cons a r, x => .cons a (DqKv.snoc r x)
theorem DqKv.keys : ∀ {kvs : List (Key × V)} {ds : List (PyData × PyData)}, DqKv N K H kvs ds → ds.map Prod.fst = kvs.map fun z => keyD z.1
  | _, _, .nil => rfl
  | _, _, .cons _ r => by
    rw [List.map_cons, List.map_cons, DqKv.keys r]
end
theorem doors_fresh {N : Addr → Prop} {K : PySem.W.Frag} {H : Hp} {kvs : List (Key × V)} {ds : List DoorH} {nm : Str} (h : DqKv N K H kvs (doorsKv ds)) (n : nm ∉ ds.map DoorH.name) : valV kvs (.inr nm) = none := by
  refine valV_off fun m => n ?_
  have e := h.keys
  obtain ⟨z, hz, ez⟩ := List.mem_map.mp m
  have m2 : keyD z.1 ∈ (doorsKv ds).map Prod.fst := by
    rw [e]
    exact List.mem_map.mpr ⟨z, hz, rfl⟩
  rw [ez] at m2
  unfold doorsKv at m2
  rw [List.map_map] at m2
  obtain ⟨d, hd, ed⟩ := List.mem_map.mp m2
  have : PyData.str d.name = PyData.str nm := ed
  cases this
  exact List.mem_map.mpr ⟨d, hd, rfl⟩
theorem two_of {x y : Str} {ys : List Str} (h : ys.Perm [x, y]) : ∃ a b, ys = [a, b] ∧ ((a = x ∧ b = y) ∨ (a = y ∧ b = x)) := by
  have l := h.length_eq
  match ys, l with
  | [a, b], _ =>
    have m : a ∈ [x, y] := h.subset List.mem_cons_self
    refine ⟨a, b, rfl, ?_⟩
    rcases List.mem_cons.mp m with rfl | m
    · have := (List.perm_cons a).mp h
      have := List.perm_singleton.mp this
      exact .inl ⟨rfl, by injection this⟩
    · have e := List.mem_singleton.mp m
      subst e
      have h2 : [a, b].Perm [a, x] := h.trans (List.Perm.swap _ _ _)
      have := List.perm_singleton.mp ((List.perm_cons a).mp h2)
      exact .inr ⟨rfl, by injection this⟩
/-- parts of a list of unlike names -/
theorem cut4 {names A B C D : List Str} {sr sw ss a b c d : Nat} (nd : names.Nodup) (ha : A.Perm (names.take a)) (al : a ≤ sr) (hb : B.Perm ((names.drop sr).take b)) (bl : b ≤ sw) (hc : C.Perm (((names.drop sr).drop sw).take c)) (cl : c ≤ ss)
    (hd : D.Perm ((((names.drop sr).drop sw).drop ss).take d)) : (A ++ (B ++ (C ++ D))).Nodup ∧ ∀ x ∈ A ++ (B ++ (C ++ D)), x ∈ names := by
  have sub : (names.take a ++ ((names.drop sr).take b ++ (((names.drop sr).drop sw).take c ++ (((names.drop sr).drop sw).drop ss).take d))).Sublist names := by
    have e1 : names = names.take sr ++ names.drop sr := (List.take_append_drop sr names).symm
    have e2 : names.drop sr = (names.drop sr).take sw ++ (names.drop sr).drop sw := (List.take_append_drop sw _).symm
    have e3 : (names.drop sr).drop sw = ((names.drop sr).drop sw).take ss ++ ((names.drop sr).drop sw).drop ss := (List.take_append_drop ss _).symm
    have s3 : (((names.drop sr).drop sw).take c ++ (((names.drop sr).drop sw).drop ss).take d).Sublist ((names.drop sr).drop sw) := by
      conv => rhs; rw [e3]
      exact (List.take_sublist_take_left cl).append (List.take_sublist _ _)
    have s2 : ((names.drop sr).take b ++ (((names.drop sr).drop sw).take c ++ (((names.drop sr).drop sw).drop ss).take d)).Sublist (names.drop sr) := by
      conv => rhs; rw [e2]
      exact (List.take_sublist_take_left bl).append s3
    conv => rhs; rw [e1]
    exact (List.take_sublist_take_left al).append s2
  have pm : (A ++ (B ++ (C ++ D))).Perm (names.take a ++ ((names.drop sr).take b ++ (((names.drop sr).drop sw).take c ++ (((names.drop sr).drop sw).drop ss).take d))) := ha.append (hb.append (hc.append hd))
  exact ⟨pm.nodup_iff.mpr (nd.sublist sub), fun x hx => sub.subset (pm.subset hx)⟩
end Wd

set_option Elab.async false
set_option linter.all false
set_option maxRecDepth 100000
set_option maxHeartbeats 4000000
/-! What rises is told by its things alone. -/
namespace Wd
open PySem PySem.Spec PyProof.Rows L2 PySem.W
def leT (a b : Str) : Prop := a.cps.toList ≤ b.cps.toList
theorem leT_trans {a b c : Str} (h1 : leT a b) (h2 : leT b c) : leT a c := List.le_trans h1 h2
theorem leT_anti {a b : Str} (h1 : leT a b) (h2 : leT b a) : a = b := by
  have e : a.cps.toList = b.cps.toList := List.le_antisymm h1 h2
  cases a
  cases b
  simp only at e
  rw [Array.toList_inj.mp e]
theorem leT_total (a b : Str) : leT a b ∨ leT b a := List.le_total _ _
theorem ltCps_le {a b : Str} : ltCps b.cps.toList a.cps.toList = false ↔ leT a b := by
  rw [ltCps_eq, decide_eq_false_iff_not]
  exact Iff.rfl
theorem rising_pair : ∀ (p : Str) (l : List Str), risingS p l = true → (p :: l).Pairwise leT
  | p, [], _ => List.pairwise_singleton _ _
  | p, x :: r, h => by
    have h2 : (!ltCps x.cps.toList p.cps.toList && risingS x r) = true := h
    rw [Bool.and_eq_true, Bool.not_eq_true'] at h2
    have px : leT p x := ltCps_le.mp h2.1
    have ih := rising_pair x r h2.2
    refine List.pairwise_cons.mpr ⟨fun y hy => ?_, ih⟩
    rcases List.mem_cons.mp hy with rfl | hy
    · exact px
    · exact leT_trans px ((List.pairwise_cons.mp ih).1 y hy)
theorem sorted_pair {l : List Str} (h : sortedS l = true) : l.Pairwise leT := by
  cases l with
  | nil => exact .nil
  | cons p l => exact rising_pair p l h
theorem perm_uniq {α : Type} {le : α → α → Prop} : ∀ {l m : List α}, (∀ a ∈ l, ∀ b ∈ l, le a b → le b a → a = b) → l.Perm m → l.Pairwise le → m.Pairwise le → l = m
  | [], m, _, p, _, _ => (List.perm_nil.mp p.symm).symm
  | a :: l, m, an, p, h1, h2 => by
    cases m with
    | nil => exact absurd p.length_eq (by simp)
    | cons b m =>
      have e : a = b := by
        have hb : b ∈ a :: l := p.mem_iff.mpr List.mem_cons_self
        have ha : a ∈ b :: m := p.mem_iff.mp List.mem_cons_self
        rcases List.mem_cons.mp hb with e | hb'
        · exact e.symm
        · rcases List.mem_cons.mp ha with e | ha'
          · exact e
          · exact an a List.mem_cons_self b hb ((List.pairwise_cons.mp h1).1 b hb') ((List.pairwise_cons.mp h2).1 a ha')
      subst e
      have p' := (List.perm_cons a).mp p
      rw [perm_uniq (fun x hx y hy => an x (List.mem_cons_of_mem _ hx) y (List.mem_cons_of_mem _ hy)) p' (List.pairwise_cons.mp h1).2 (List.pairwise_cons.mp h2).2]
theorem strLe_iff {β : Type} {key : β → Str} {x y : β} : strLe key x y = true ↔ leT (key x) (key y) := by
  have e : strLe key x y = !(strKind.blt (key y).cps.toList (key x).cps.toList) := by
    show (!lexLt itemOrd (keyToks (.str (key y))) (keyToks (.str (key x)))) = _
    have a1 : keyToks (.str (key y)) = [Sum.inr (key y).cps.toList] := by rw [keyToks]
    have a2 : keyToks (.str (key x)) = [Sum.inr (key x).cps.toList] := by rw [keyToks]
    rw [a1, a2, lex_cons]
    show (!(strKind.blt _ _ || (_ && false))) = _
    rw [Bool.and_false, Bool.or_false]
  rw [e, Bool.not_eq_true']
  have b : strKind.blt (key y).cps.toList (key x).cps.toList = ltCps (key y).cps.toList (key x).cps.toList := by
    rw [ltCps_eq]
  rw [b]
  exact ltCps_le
/-- by unlike names: the one order -/
theorem merge_names {β : Type} {xs ys : List β} {key : β → Str} {ns : List Str} (hk : ys.map key = ns) (hs : sortedS ns = true) (hn : ns.Nodup) (hp : xs.Perm ys) : xs.mergeSort (strLe key) = ys := by
  have pw : (xs.mergeSort (strLe key)).Pairwise (fun a b => leT (key a) (key b)) := by
    have := List.pairwise_mergeSort (le := strLe key) (fun a b c h1 h2 => strLe_iff.mpr (leT_trans (strLe_iff.mp h1) (strLe_iff.mp h2))) (fun a b => by
      rcases leT_total (key a) (key b) with h | h
      · rw [strLe_iff.mpr h, Bool.true_or]
      · rw [strLe_iff.mpr h, Bool.or_true]) xs
    exact this.imp fun {a b} h => strLe_iff.mp h
  have pm : (xs.mergeSort (strLe key)).Perm ys := (List.mergeSort_perm xs _).trans hp
  have py : ys.Pairwise (fun a b => leT (key a) (key b)) := by
    have := sorted_pair hs
    rw [← hk, List.pairwise_map] at this
    exact this
  refine perm_uniq (fun a ha b hb h1 h2 => ?_) pm pw py
  have ea : key a = key b := leT_anti h1 h2
  have nd : (ys.map key).Nodup := by rw [hk]; exact hn
  have ma := pm.mem_iff.mp ha
  have mb := pm.mem_iff.mp hb
  obtain ⟨i, hi, rfl⟩ := List.getElem_of_mem ma
  obtain ⟨j, hj, rfl⟩ := List.getElem_of_mem mb
  have p2 := List.pairwise_iff_getElem.mp nd
  rcases Nat.lt_trichotomy i j with c | c | c
  · exact absurd (by rw [List.getElem_map, List.getElem_map]; exact ea) (p2 i j (by simpa using hi) (by simpa using hj) c)
  · subst c
    rfl
  · exact absurd (by rw [List.getElem_map, List.getElem_map]; exact ea.symm) (p2 j i (by simpa using hj) (by simpa using hi) c)
/-- texts -/
theorem sort_texts {xs ys : List Str} (h1 : sortedS xs = true) (h2 : sortedS ys = true) (p : xs.Perm ys) : xs = ys :=
  perm_uniq (fun _ _ _ _ => leT_anti) p (sorted_pair h1) (sorted_pair h2)
/-! ### sorted of a list or a tuple of texts -/
def rSortG (K : PySem.W.Frag) : List V → Hp → VK → Prop := fun vs H Q => ∃ (a : Addr) (xs : List Str), vs = [V.ref a] ∧ (SqL K H a (xs.map V.str) ∨ SqT K H a (xs.map V.str)) ∧ xs.length < 64 ∧
  ∀ (ys : List Str) (p : Addr), ys.Perm xs → sortedS ys = true → H p = none → Q (.ref p) (upd H p (.lst (ys.map V.str)))
theorem cr_sortG {X : Cx} {K : PySem.W.Frag} (hK : X.K = K := by rfl) : CallR X (.builtin "sorted") (rSortG K) := by
  subst hK
  intro pins s σ H vs us Q I r h
  obtain ⟨a, xs, rfl, hs, h64, q⟩ := h
  obtain ⟨T, o, its, n, hT, ho, hc, hd, rv, hz⟩ := seq_obj I hs
  rw [Vals.ref1 r]
  have hS := rv.strs
  have hl : its.length = xs.length := by
    have z := rv.length
    rw [List.length_map] at z
    exact z.symm
  refine sorted_seq hT ho hc hd (by rw [hl, sizeLine_eq]; omega) (args_sorted1 _) (fun _ => args_list_sort _) fun h1 E' k1 => ?_
  have I1 : Inv X pins σ H { s with heap := h1 } := I.kept (t' := s.toks) k1
  have hob : (h1.push (seqObj "list" its.toArray 0)).get? h1.objs.size = some (seqObj "list" its.toArray 0) := Heap.get?_push_size _ rfl
  refine list_sort_treeK strKind_oneLt (s := { s with heap := h1.push (seqObj "list" its.toArray 0) }) hob hS.keysOf (fun v₁ v₂ rest e => keyKind_strs (by rw [← e]; exact hS)) (by rw [hl]; exact h64) fun st' hp hs' => ⟨rfl, ?_⟩
  obtain ⟨ys, g1, g2, g3⟩ := sorted_out_str hS hp hs'
  obtain ⟨ep, he'⟩ := PyProof.Rows.sortedHeap_at (vs := its) (out := (arrOf st').map (·.2)) hob
  have hlen : (ys.map V.str).length ≤ sizeLine := by
    rw [List.length_map, g2.length_eq, sizeLine_eq]
    omega
  refine ⟨.ref h1.objs.size, upd H h1.objs.size (.lst (ys.map V.str)), I1.laid (t' := s.toks) (fun b u e => ?_) (Nat.le_refl _) (show ObjOk X.prog X.w _ _ _ (.lst (ys.map V.str)) from ⟨hlen, ((arrOf st').map (·.2)).toList, ep, vals_of_strs g1, by rw [Array.toArray_toList]; exact he'⟩), rfl, q ys _ g2 g3 (I1.hok.fresh (Nat.le_refl _))⟩
  have hb : b ≠ h1.objs.size := Nat.ne_of_lt (Heap.lt_size e)
  rw [PyProof.Rows.sortedHeap_old hb (by show b < (h1.push (seqObj "list" its.toArray 0)).objs.size; rw [size_push']; exact Nat.lt_succ_of_lt (Heap.lt_size e))]
  exact Heap.get?_push_of_some _ e
end Wd

set_option Elab.async false
set_option linter.all false
set_option maxRecDepth 100000
set_option maxHeartbeats 4000000
/-! What a hall is made of, in drawn orders. -/
namespace Wd
open PySem PySem.Spec PyProof.Rows L2
section
variable {N : Addr → Prop} {K : PySem.W.Frag} {H H' : Hp}
theorem doorsKv_keys : ∀ {ds : List DoorH} {kvs : List (Key × V)}, DqKv N K H kvs (doorsKv ds) → kvs.map (·.1) = ds.map fun d => Sum.inr d.name
  | [], kvs, h => by cases h; rfl
  | d :: ds, kvs, h => by
    have e : doorsKv (d :: ds) = (.str d.name, d.data) :: doorsKv ds := rfl
    rw [e] at h
    generalize hx : PyData.str d.name = x at h
    cases h with
    | @cons k v kvs' d' ds' h1 h2 =>
      rw [List.map_cons, List.map_cons, doorsKv_keys h2]
      cases k with
      | inl i => cases hx
      | inr z => cases hx; rfl
theorem doorsKv_at : ∀ {ds : List DoorH} {kvs : List (Key × V)} {d : DoorH}, DqKv N K H kvs (doorsKv ds) → (ds.map DoorH.name).Nodup → d ∈ ds → ∃ v, valV kvs (.inr d.name) = some v ∧ Dq N K H v d.data
  | [], _, _, _, _, m => absurd m (by simp)
  | d0 :: ds, kvs, d, h, nd, m => by
    have e : doorsKv (d0 :: ds) = (.str d0.name, d0.data) :: doorsKv ds := rfl
    rw [e] at h
    generalize hx : PyData.str d0.name = x at h
    generalize hy : d0.data = y at h
    cases h with
    | @cons k v kvs' d' ds' h1 h2 =>
      have ek : k = .inr d0.name := by
        cases k with
        | inl i => cases hx
        | inr z => cases hx; rfl
      have nd' : d0.name ∉ ds.map DoorH.name ∧ (ds.map DoorH.name).Nodup := by
        rw [List.map_cons] at nd
        exact List.nodup_cons.mp nd
      rcases List.mem_cons.mp m with rfl | m
      · exact ⟨v, valV_pos ek, by rw [hy]; exact h1⟩
      · obtain ⟨v', e1, e2⟩ := doorsKv_at h2 nd'.2 m
        refine ⟨v', ?_, e2⟩
        rw [valV_neg (fun q => ?_)]
        · exact e1
        · have q' : k = .inr d.name := q
          rw [ek] at q'
          exact nd'.1 (by rw [Sum.inr.inj q']; exact List.mem_map.mpr ⟨d, m, rfl⟩)
theorem door_inv {v : V} {d : DoorH} (h : Dq N K H v d.data) : ∃ (t tr : Addr) (rvs : List V), v = .ref t ∧ N t ∧ N tr ∧ SqT K H t [.str d.one, .str d.other, .str d.way, .ref tr] ∧ SqT K H tr rvs ∧ DqAll N K H rvs (d.rows.map RowH.data) := by
  cases h with
  | tup n e q =>
    cases q with
    | cons h1 q =>
      cases q with
      | cons h2 q =>
        cases q with
        | cons h3 q =>
          cases q with
          | cons h4 q =>
            cases q
            cases h1
            cases h2
            cases h3
            cases h4 with
            | tup n' e' q' => exact ⟨_, _, _, rfl, n, n', e, e', q'⟩
end
/-- no list -/
def NoLs (o : HO) : Prop := ∀ ys, o ≠ .lst ys
theorem rows_move {p : Addr} {K : PySem.W.Frag} {H H' : Hp} (s : ∀ a o, a ≠ p → NoLs o → H a = some o → H' a = some o) : ∀ {vs : List V} {rs : List RowH}, DqAll (· ≠ p) K H vs (rs.map RowH.data) → DqAll (· ≠ p) K H' vs (rs.map RowH.data)
  | [], [], _ => .nil
  | v :: vs, r :: rs, h => by
    cases h with
    | cons h1 h2 =>
      refine .cons ?_ (rows_move s h2)
      cases h1 with
      | @tup a0 xs0 ds0 n e q =>
        have e' : SqT K H' a0 xs0 := by
          rcases e with (e | ⟨u, e⟩) | e
          · exact .inl (.inl (s _ _ n (fun _ z => by cases z) e))
          · exact .inl (.inr ⟨u, s _ _ n (fun _ z => by cases z) e⟩)
          · exact .inr e
        refine .tup n e' ?_
        cases q with
        | cons q1 q =>
          cases q with
          | cons q2 q =>
            cases q with
            | cons q3 q =>
              cases q
              cases q1
              cases q2
              refine .cons (.str _) (.cons (.int _) (.cons ?_ .nil))
              cases em : r.most with
              | none =>
                rw [em] at q3
                cases q3
                exact .non
              | some m =>
                rw [em] at q3
                cases q3
                exact .int m
/-- a door as it is handed in: z.2 is the list of its rows, where it is a list -/
def PartD (p lf : Addr) (K : PySem.W.Frag) (H : Hp) (v : V) (z : DoorH × Option Addr) : Prop := ∃ (t tt : Addr) (one other : Str) (rows : List RowH) (rvs : List V), v = .ref t ∧ t ≠ p ∧ SqT K H t [.str z.1.name, .str one, .str other, .str z.1.way, .ref tt] ∧
  ((one = z.1.one ∧ other = z.1.other) ∨ (z.1.way = "both" ∧ one = z.1.other ∧ other = z.1.one)) ∧ rows.Perm z.1.rows ∧ DqAll (· ≠ p) K H rvs (rows.map RowH.data) ∧ ((z.2 = some tt ∧ H tt = some (.lst rvs) ∧ tt ≠ lf) ∨ (z.2 = none ∧ SqT K H tt rvs)) ∧ tt ≠ p
theorem PartD.move {p lf : Addr} {K : PySem.W.Frag} {H H' : Hp} {v : V} {z : DoorH × Option Addr} (s : ∀ a o, a ≠ p → (a ≠ lf ∨ NoLs o) → H a = some o → H' a = some o) (h : PartD p lf K H v z) : PartD p lf K H' v z := by
  obtain ⟨t, tt, one, other, rows, rvs, e, nt, sq, en, rp, dq, l, ntt⟩ := h
  have mt : ∀ {b : Addr} {xs : List V}, b ≠ p → SqT K H b xs → SqT K H' b xs := fun {b xs} nb h => by
    rcases h with (h | ⟨u, h⟩) | h
    · exact .inl (.inl (s _ _ nb (.inr fun _ z => by cases z) h))
    · exact .inl (.inr ⟨u, s _ _ nb (.inr fun _ z => by cases z) h⟩)
    · exact .inr h
  refine ⟨t, tt, one, other, rows, rvs, e, nt, mt nt sq, en, rp, rows_move (fun a o na no ea => s a o na (.inr no) ea) dq, ?_, ntt⟩
  rcases l with ⟨l1, l2, l3⟩ | ⟨l1, l2⟩
  · exact .inl ⟨l1, s _ _ ntt (.inl l3) l2, l3⟩
  · exact .inr ⟨l1, mt ntt l2⟩
theorem paired_mono {α β : Type} {F G : α → β → Prop} (m : ∀ a b, F a b → G a b) : ∀ {xs : List α} {ys : List β}, Paired F xs ys → Paired G xs ys
  | _, _, .nil => .nil
  | _, _, .cons h r => .cons (m _ _ h) (paired_mono m r)
theorem paired_snoc {α β : Type} {F : α → β → Prop} {a : α} {b : β} (h : F a b) : ∀ {xs : List α} {ys : List β}, Paired F xs ys → Paired F (xs ++ [a]) (ys ++ [b])
  | _, _, .nil => .cons h .nil
  | _, _, .cons g r => .cons g (paired_snoc h r)
theorem dqAll_perm {α : Type} {f : α → PyData} {N : Addr → Prop} {K : PySem.W.Frag} {H : Hp} {xs ys : List V} (p : ys.Perm xs) : ∀ {rs : List α}, DqAll N K H xs (rs.map f) → ∃ rs' : List α, rs'.Perm rs ∧ DqAll N K H ys (rs'.map f) := by
  induction p with
  | nil => exact fun {rs} h => ⟨rs, List.Perm.refl _, h⟩
  | cons x _ ih =>
    intro rs h
    cases rs with
    | nil => cases h
    | cons r rs =>
      cases h with
      | cons h1 h2 =>
        obtain ⟨rs', p', d'⟩ := ih h2
        exact ⟨r :: rs', p'.cons r, .cons h1 d'⟩
  | swap x y l =>
    intro rs h
    cases rs with
    | nil => cases h
    | cons r rs =>
      cases rs with
      | nil =>
        cases h with
        | cons _ h => cases h
      | cons r2 rs =>
        cases h with
        | cons h1 h2 =>
          cases h2 with
          | cons h2 h3 => exact ⟨r2 :: r :: rs, List.Perm.swap _ _ _, .cons h2 (.cons h1 h3)⟩
  | trans _ _ ih1 ih2 =>
    intro rs h
    obtain ⟨r1, p1, d1⟩ := ih2 h
    obtain ⟨r2, p2, d2⟩ := ih1 d1
    exact ⟨r2, p2.trans p1, d2⟩
theorem plain_rows {N : Addr → Prop} {K : PySem.W.Frag} {H : Hp} : ∀ {vs : List V} {rs : List RowH}, DqAll N K H vs (rs.map RowH.data) → (∀ r ∈ rs, PyData.strOk r.room = true) → ∀ y ∈ vs, ∃ d, Dq N K H y d ∧ Plain d
  | [], _, _, _, _, m => absurd m (by simp)
  | v :: vs, rs, h, ok, y, m => by
    cases rs with
    | nil => cases h
    | cons r rs =>
      cases h with
      | cons h1 h2 =>
        rcases List.mem_cons.mp m with rfl | m
        · exact ⟨_, h1, plain_row (ok r List.mem_cons_self)⟩
        · exact plain_rows h2 (fun z hz => ok z (List.mem_cons_of_mem _ hz)) y m
theorem perm_of_map {α β : Type} (f : α → β) {m : List β} {l : List α} (h : m.Perm (l.map f)) : ∃ l' : List α, l'.Perm l ∧ l'.map f = m := perm_lift f h l rfl
def stoneD (s : Str × Int) : PyData := .tuple [.str s.1, .int s.2]
theorem stones_dq {p : Addr} {K : PySem.W.Frag} {H : Hp} : ∀ {ts : List Addr} {ss : List (Str × Int)}, Paired (fun (t : Addr) (q : Key × V) => H t = some (.tup [kV q.1, q.2])) ts (stonesKv ss) → (∀ t ∈ ts, t ≠ p) → DqAll (· ≠ p) K H (ts.map V.ref) (ss.map stoneD)
  | [], [], _, _ => .nil
  | t :: ts, s :: ss, h, n => by
    have e : stonesKv (s :: ss) = (.inr s.1, .int s.2) :: stonesKv ss := rfl
    rw [e] at h
    cases h with
    | cons h1 h2 => exact .cons (.tup (n t List.mem_cons_self) (.inl (.inl h1)) (.cons (.str _) (.cons (.int _) .nil))) (stones_dq h2 fun z hz => n z (List.mem_cons_of_mem _ hz))
  | [], s :: ss, h, _ => by cases h
  | t :: ts, [], h, _ => by cases h
theorem plain_stones {N : Addr → Prop} {K : PySem.W.Frag} {H : Hp} : ∀ {vs : List V} {rs : List (Str × Int)}, DqAll N K H vs (rs.map stoneD) → (∀ r ∈ rs, PyData.strOk r.1 = true) → ∀ y ∈ vs, ∃ d, Dq N K H y d ∧ Plain d
  | [], _, _, _, _, m => absurd m (by simp)
  | v :: vs, rs, h, ok, y, m => by
    cases rs with
    | nil => cases h
    | cons r rs =>
      cases h with
      | cons h1 h2 =>
        rcases List.mem_cons.mp m with rfl | m
        · have := ok r List.mem_cons_self
          exact ⟨_, h1, by simp [stoneD, PyData.hasDict, PyData.hasDictAll], by simp [stoneD, PyData.canLay0, PyData.canLayAll0, this], by simp [stoneD, PyData.depth, PyData.depthAll]⟩
        · exact plain_stones h2 (fun z hz => ok z (List.mem_cons_of_mem _ hz)) y m
theorem fresh_of {p l : Addr} {H G : Hp} (up : ∀ z o, z ≠ p → H z = some o → G z = some o) (n : l ≠ p) (e : G l = none) : H l = none := by
  cases q : H l with
  | none => rfl
  | some u =>
    rw [up l u n q] at e
    cases e
theorem paired_snd {α β : Type} {F : α → β → Prop} : ∀ {xs : List α} {ys : List β}, Paired F xs ys → ∀ {y : β}, y ∈ ys → ∃ x, x ∈ xs ∧ F x y
  | _, _, .nil, _, h => absurd h (by simp)
  | _, _, .cons h r, y, m => by
    rcases List.mem_cons.mp m with rfl | m
    · exact ⟨_, List.mem_cons_self, h⟩
    · obtain ⟨x, hx, q⟩ := paired_snd r m
      exact ⟨x, List.mem_cons_of_mem _ hx, q⟩
end Wd

set_option Elab.async false
set_option linter.all false
set_option maxRecDepth 100000
set_option maxHeartbeats 4000000
/-! Defs that make a lambda: their own code object is known. -/
namespace Wd
open PySem PySem.Spec PyProof.Rows L2
section
variable {P : Program} {w : World} {K : PySem.W.Frag} {mg : Str → Option Value} {base : Heap}
theorem fnT {x qual : Str} {st : Stmt} {f c : Addr} {fd : FuncData} {N ps : List Str} {k : Nat} {sp : Sp} (F : C8.Fun K x qual st f fd) (hcode : fd.code = .ref c) (S : FnScope N ps (C8.fnScope st)) (len : ∀ xs G R E, sp xs G R E → xs.length = ps.length)
    (hb : ∀ (A : Around) (out : List Env) (z : Shared) (G : Hp) (xs : List V) (R : VK) (E : XK), Room k (A.deeper (envOfC qual (C8.fnScope st) z.heap.objs.size f (.ref c))) → sp xs G R E →
      ∃ t, PSs (cxOf CX0 P w K mg base N qual (C8.fnScope st) f (.ref c) A out z G E).nox (C8.fnBody st) t ∧ t { nx := fun _ G' => R .non G', rt := R } (start N xs) G) : FnOk P w K mg base CX0 (k + 1) f fd ps sp := by
  obtain ⟨oc, od, dV, kV, doc, pm, an, cv, ct, sl, rfl, lk, hc⟩ := F.ex
  have e : cv = .ref c := hcode
  subst e
  refine fn_of lk hc S len fun A out z G xs R E hr hsp => ?_
  obtain ⟨t, h, q⟩ := hb A out z G xs R E hr hsp
  exact ⟨t, h.nox, q⟩
theorem calT {x : Str} {st : Stmt} {f c : Addr} {fd : FuncData} {N ps : List Str} {ds : List Value} {dvs : List V} {k : Nat} {sp : Sp} (F : C8.Def K mg x st f fd) (hcode : fd.code = .ref c) (b : Binds K fd ps ds) (d : Vals dvs ds) (S : FnScope N ps (C8.fnScope st)) (len : ∀ xs G R E, sp xs G R E → xs.length = ps.length)
    (hb : ∀ (A : Around) (out : List Env) (z : Shared) (G : Hp) (xs : List V) (R : VK) (E : XK), Room k (A.deeper (envOfC x (C8.fnScope st) z.heap.objs.size f (.ref c))) → sp xs G R E →
      ∃ t, PSs (cxOf CX0 P w K mg base N x (C8.fnScope st) f (.ref c) A out z G E).nox (C8.fnBody st) t ∧ t { nx := fun _ G' => R .non G', rt := R } (start N xs) G) : C8.Cal P w K mg base (k + 1) x sp dvs :=
  ⟨f, fd, ps, ds, fnT F.fn hcode S len hb, F.mgf, F.kp, b, d⟩
end
theorem pg_lstK {X : Cx} {K : PySem.W.Frag} {es : List Expr} {k : _} {pos : Pos} {t : TGs} {n : Nat} (hc : X.calm = true) (h : PGs X es t) (hK : X.K = K := by rfl) (hn : (assignEach es X.env).length = n := by rfl) (hst : (assignEach es X.env).findIdx? (·.1) = none := by rfl) : PG X (.Tuple es k pos) (gLst K n t) := by
  subst hK
  exact pg_lst hc h hn hst
theorem nofree_by {ns : List (Str × NameKind)} {Q : Str × NameKind → Prop} (h : ns.all (fun y => !decide (y.2 = .free)) = true) : ∀ z ∈ ns, z.2 = .free → Q z := fun z hz e => by
  have := List.all_eq_true.mp h z hz
  rw [Bool.not_eq_true', decide_eq_false_iff_not] at this
  exact absurd e this
theorem nocell_by {ns : List (Str × NameKind)} (h : ns.all (fun y => !decide (y.2 = .cell)) = true) : ∀ z ∈ ns, z.2 ≠ .cell := fun z hz e => by
  have := List.all_eq_true.mp h z hz
  rw [Bool.not_eq_true', decide_eq_false_iff_not] at this
  exact absurd e this
theorem pe_tupleK {X : Cx} {K : PySem.W.Frag} {a : Expr} {ta : TE} {p pos : Pos} (hg : Gl X "tuple") (hm : X.mg "tuple" = none) (ha : PE X a ta) (hK : X.K = K := by rfl) (na : starEach [a] X.env = (false, eval a X.env) :: starEach [] X.env := by rfl) :
    PE X (.Call (.Name "tuple" p) [a] [] pos) (tThen ta (kTup K)) := by
  subst hK
  exact pe_tupleOf hg hm ha na
/-! ### a walk over a list or a tuple -/
def iSeq (K : PySem.W.Frag) (te : TE) : TI := fun σ H R => te σ H fun x H1 => ∃ a, x = .ref a ∧ (((∃ xs, SqL K H1 a xs) ∧ R (Itl K a) H1) ∨ ((∃ xs, SqT K H1 a xs) ∧ R (Itt K a) H1))
section
variable {X : Cx} {tg : Expr} {pins : List (Addr × Obj)} {σ : L2.St} {H : Hp} {s : Shared} {R : It → Hp → Prop} {a : Addr} {xs : List V}
theorem it_list (I : Inv X pins σ H s) (h : SqL X.K H a xs) (r : R (Itl X.K a) H) : wpAny (model X.prog X.w) X.A (pyIter (.ref a)) (PIE X pins σ tg R) X.xe s := by
  obtain ⟨its, _, pl, _⟩ := I.list h
  refine wpAny_pyIter_list pl.isList ⟨_, [s.heap.objs.size], _, _, H, rfl, I.kept (t' := s.toks) fun z u ez => Heap.get?_push_of_some _ ez, turn_list a _, ⟨_, Heap.get?_push_size _ rfl, rfl, rfl⟩, fun z hz => ?_, r⟩
  rw [List.mem_singleton.mp hz]
  exact I.fpOk (Nat.le_refl _) (I.hok.fresh (Nat.le_refl _))
theorem it_tup (I : Inv X pins σ H s) (h : SqT X.K H a xs) (r : R (Itt X.K a) H) : wpAny (model X.prog X.w) X.A (pyIter (.ref a)) (PIE X pins σ tg R) X.xe s := by
  obtain ⟨its, _, pl, _⟩ := I.tuple h
  refine wpAny_pyIter_tuple (show s.heap.IsTuple a its.toArray from pl) ⟨_, [s.heap.objs.size], _, _, H, rfl, I.kept (t' := s.toks) fun z u ez => Heap.get?_push_of_some _ ez, turn_tuple a _, ⟨_, Heap.get?_push_size _ rfl, rfl, rfl⟩, fun z hz => ?_, r⟩
  rw [List.mem_singleton.mp hz]
  exact I.fpOk (Nat.le_refl _) (I.hok.fresh (Nat.le_refl _))
theorem pi_seqK {K : PySem.W.Frag} {e : Expr} {te : TE} (he : PE X e te) (hK : X.K = K := by rfl) : PI X tg e (iSeq K te) := by
  subst hK
  refine ⟨fun pins s σ H R I q => thn (he.run pins s σ H _ I q) fun v s1 ⟨x, H1, I1, r1, q1⟩ => ?_⟩
  obtain ⟨b, eb, q1⟩ := q1
  subst eb
  cases r1
  rcases q1 with ⟨⟨ys, h⟩, r⟩ | ⟨⟨ys, h⟩, r⟩
  · exact it_list I1 h r
  · exact it_tup I1 h r
end
/-! ### what stays where a lambda is made: all but the tables -/
theorem rowsT {N : Addr → Prop} {K : PySem.W.Frag} {H H' : Hp} (s : ∀ a xs, N a → SqT K H a xs → SqT K H' a xs) : ∀ {vs : List V} {rs : List RowH}, DqAll N K H vs (rs.map RowH.data) → DqAll N K H' vs (rs.map RowH.data)
  | [], [], _ => .nil
  | v :: vs, r :: rs, h => by
    cases h with
    | cons h1 h2 =>
      refine .cons ?_ (rowsT s h2)
      cases h1 with
      | tup n e q =>
        refine .tup n (s _ _ n e) ?_
        cases q with
        | cons q1 q =>
          cases q with
          | cons q2 q =>
            cases q with
            | cons q3 q =>
              cases q
              cases q1
              cases q2
              refine .cons (.str _) (.cons (.int _) (.cons ?_ .nil))
              cases em : r.most with
              | none =>
                rw [em] at q3
                cases q3
                exact .non
              | some m =>
                rw [em] at q3
                cases q3
                exact .int m
theorem ext_sqT {K : PySem.W.Frag} {H H' : Hp} {a : Addr} {xs : List V} (e : LamX.ExtN H H') (h : SqT K H a xs) : SqT K H' a xs := by
  rcases h with (h | ⟨u, h⟩) | h
  · exact .inl (.inl (e _ _ h fun _ z => by cases z))
  · exact .inl (.inr ⟨u, e _ _ h fun _ z => by cases z⟩)
  · exact .inr h
theorem ext_sqL {K : PySem.W.Frag} {H H' : Hp} {a : Addr} {xs : List V} (e : LamX.ExtN H H') (h : SqL K H a xs) : SqL K H' a xs := by
  rcases h with (h | ⟨u, h⟩) | h
  · exact .inl (.inl (e _ _ h fun _ z => by cases z))
  · exact .inl (.inr ⟨u, e _ _ h fun _ z => by cases z⟩)
  · exact .inr h
/-- may be new, though tables grow -/
def NewT (H : Hp) (a : Addr) : Prop := H a = none ∨ ∃ ps, H a = some (.tbl ps)
theorem ext_new {H H' : Hp} {a : Addr} (e : LamX.ExtN H H') (n : H' a = none) : NewT H a := by
  cases q : H a with
  | none => exact .inl q
  | some o =>
    by_cases c : ∃ ps, o = .tbl ps
    · obtain ⟨ps, rfl⟩ := c
      exact .inr ⟨ps, q⟩
    · rw [e _ _ q fun ps z => c ⟨ps, z⟩] at n
      cases n
theorem row_inv {N : Addr → Prop} {K : PySem.W.Frag} {H : Hp} {v : V} {r : RowH} (h : Dq N K H v r.data) : ∃ (t : Addr) (rest : List V), v = .ref t ∧ N t ∧ SqT K H t (.str r.room :: rest) := by
  cases h with
  | tup n e q =>
    cases q with
    | cons q1 q =>
      cases q1
      exact ⟨_, _, rfl, n, e⟩
theorem zip_dq {N : Addr → Prop} {K : PySem.W.Frag} {H : Hp} : ∀ {vs : List V} {rs : List RowH}, DqAll N K H vs (rs.map RowH.data) → ∀ z ∈ vs.zip rs, Dq N K H z.1 z.2.data
  | [], _, _, _, m => absurd m (by simp)
  | v :: vs, [], h, _, m => absurd m (by simp)
  | v :: vs, r :: rs, h, z, m => by
    cases h with
    | cons h1 h2 =>
      rw [List.zip_cons_cons] at m
      rcases List.mem_cons.mp m with rfl | m
      · exact h1
      · exact zip_dq h2 z m
theorem dq_zip {N : Addr → Prop} {K : PySem.W.Frag} {H : Hp} : ∀ {L : List (V × RowH)}, (∀ z ∈ L, Dq N K H z.1 z.2.data) → DqAll N K H (L.map Prod.fst) ((L.map Prod.snd).map RowH.data)
  | [], _ => .nil
  | z :: L, h => .cons (h z List.mem_cons_self) (dq_zip fun y m => h y (List.mem_cons_of_mem _ m))
/-- rows in the order of their rooms -/
theorem rows_sorted {N : Addr → Prop} {K : PySem.W.Frag} {H : Hp} {vs : List V} {rs rs0 : List RowH} (h : DqAll N K H vs (rs.map RowH.data)) (p : rs.Perm rs0) (hs : sortedS (rs0.map RowH.room) = true) (hn : (rs0.map RowH.room).Nodup) :
    ∃ vs0, (((vs.zip rs).map fun z : V × RowH => (z.1, z.2.room)).mergeSort (strLe Prod.snd)).map Prod.fst = vs0 ∧ DqAll N K H vs0 (rs0.map RowH.data) := by
  have hl : vs.length = rs.length := by rw [h.length, List.length_map]
  have e2 : (vs.zip rs).map Prod.snd = rs := List.map_snd_zip (by omega)
  obtain ⟨L, Lp, Ls⟩ := perm_lift Prod.snd p.symm (vs.zip rs) e2
  have m := merge_names (xs := (vs.zip rs).map fun z : V × RowH => (z.1, z.2.room)) (ys := L.map fun z : V × RowH => (z.1, z.2.room)) (key := Prod.snd) (ns := rs0.map RowH.room) (by
    rw [List.map_map, ← Ls, List.map_map]
    rfl) hs hn (Lp.symm.map _)
  refine ⟨L.map Prod.fst, ?_, ?_⟩
  · rw [m, List.map_map]
    rfl
  · have := dq_zip (L := L) fun z hz => zip_dq h z (Lp.subset hz)
    rw [Ls] at this
    exact this
/-- a dict made over a walk -/
theorem dc_walk {J : It} {n : Nat} {G : Hp → Prop} {Y : Nat → Hp → V → Hp → Prop} (wk : Walk J n G Y) {g : TG} {tt : TT} {tk tv : TE} {vs : List Nat} {σ : L2.St} {H1 : Hp} {D : Addr} {Qd : Hp → Prop} (Pv : Nat → Hp → Prop) (p0 : Pv 0 (upd H1 D (.dK []))) (pG : ∀ i Z, i ≤ n → Pv i Z → G Z)
    (ps : ∀ i x Z Z', i < n → Pv i Z → Y i Z x Z' → g x (wipe σ vs) Z' fun σ2 Z2 => wipe σ2 vs = wipe σ vs ∧ tt σ2 Z2 fun b Z3 =>
      if b = true then tk σ2 Z3 fun y Z4 => tv σ2 Z4 fun z Z5 => ∃ kvs k, y = kV k ∧ Z5 D = some (.dK kvs) ∧ kvs.length < sizeLine ∧ Pv (i + 1) (upd Z5 D (.dK (putK kvs k z))) else Pv (i + 1) Z3) (pd : ∀ Z, Pv n Z → Qd Z) :
    ∃ W : Nat → Nat → Hp → Prop, (∃ m, W 0 m (upd H1 D (.dK []))) ∧ ∀ i m Z, W i m Z →
      (J.stop i Z ∧ Qd Z) ∨ (J.go i Z ∧ ∃ Nx : Hp → Prop, (∀ Z', Nx Z' → ∃ m', m' < m ∧ W (i + 1) m' Z') ∧ ∀ x Z', J.yld i Z x Z' → g x (wipe σ vs) Z' fun σ2 Z2 => wipe σ2 vs = wipe σ vs ∧ tt σ2 Z2 fun b Z3 =>
        if b = true then tk σ2 Z3 fun y Z4 => tv σ2 Z4 fun z Z5 => ∃ kvs k, y = kV k ∧ Z5 D = some (.dK kvs) ∧ kvs.length < sizeLine ∧ Nx (upd Z5 D (.dK (putK kvs k z))) else Nx Z3) := by
  refine ⟨fun i m Z => m = n - i ∧ i ≤ n ∧ Pv i Z, ⟨n, by simp, Nat.zero_le _, p0⟩, ?_⟩
  rintro i m Z ⟨rfl, hi, p⟩
  have gg := pG i Z hi p
  rcases Nat.lt_or_ge i n with lt | ge
  · exact .inr ⟨wk.goes i Z lt gg, Pv (i + 1), fun Z' p' => ⟨n - (i + 1), by omega, rfl, lt, p'⟩, fun x Z' y => ps i x Z Z' lt p (wk.yields i Z x Z' lt gg y)⟩
  · have e : i = n := by omega
    subst e
    exact .inl ⟨wk.stops Z gg, pd Z p⟩
/-! ### data without dicts lives as long as its lists and tuples do -/
section
variable {N N' : Addr → Prop} {K : PySem.W.Frag} {H H' : Hp}
mutual
theorem Dq.sq (n : ∀ a, N a → N' a) (sL : ∀ a xs, SqL K H a xs → SqL K H' a xs) (sT : ∀ a xs, SqT K H a xs → SqT K H' a xs) : ∀ (d : PyData) (v : V), d.hasDict = false → Dq N K H v d → Dq N' K H' v d
  | .none, _, _, h => by cases h; exact .non
  | .bool b, _, _, h => by cases h; exact .bl b
  | .int i, _, _, h => by cases h; exact .int i
  | .str x, _, _, h => by cases h; exact .str x
  | .list ds, _, f, h => by
    cases h with
    | lst z hq ha => exact .lst (n _ z) (sL _ _ hq) (DqAll.sq n sL sT ds _ (by simpa [PyData.hasDict] using f) ha)
  | .tuple ds, _, f, h => by
    cases h with
    | tup z hq ha => exact .tup (n _ z) (sT _ _ hq) (DqAll.sq n sL sT ds _ (by simpa [PyData.hasDict] using f) ha)
  | .dict ds, _, f, _ => by simp [PyData.hasDict] at f
theorem DqAll.sq (n : ∀ a, N a → N' a) (sL : ∀ a xs, SqL K H a xs → SqL K H' a xs) (sT : ∀ a xs, SqT K H a xs → SqT K H' a xs) : ∀ (ds : List PyData) (vs : List V), PyData.hasDictAll ds = false → DqAll N K H vs ds → DqAll N' K H' vs ds
  | [], _, _, h => by cases h; exact .nil
  | d :: ds, _, f, h => by
    have f' : d.hasDict = false ∧ PyData.hasDictAll ds = false := by simpa [PyData.hasDictAll] using f
    cases h with
    | cons h1 h2 => exact .cons (Dq.sq n sL sT d _ f'.1 h1) (DqAll.sq n sL sT ds _ f'.2 h2)
end
theorem DqKv.sq (n : ∀ a, N a → N' a) (sL : ∀ a xs, SqL K H a xs → SqL K H' a xs) (sT : ∀ a xs, SqT K H a xs → SqT K H' a xs) : ∀ (ds : List DoorH) (kvs : List (Key × V)), DqKv N K H kvs (doorsKv ds) → DqKv N' K H' kvs (doorsKv ds)
  | [], _, h => by cases h; exact .nil
  | d :: ds, kvs, h => by
    have e : doorsKv (d :: ds) = (.str d.name, d.data) :: doorsKv ds := rfl
    rw [e] at h ⊢
    generalize hx : PyData.str d.name = x at h ⊢
    cases h with
    | cons h1 h2 => exact .cons (Dq.sq n sL sT _ _ (door_noDict d) h1) (DqKv.sq n sL sT ds _ h2)
theorem stones_noDict : ∀ ss : List (Str × Int), PyData.hasDictAll (ss.map stoneD) = false
  | [] => rfl
  | x :: r => by
    rw [List.map_cons]
    simp only [PyData.hasDictAll, stones_noDict r, Bool.or_false]
    rfl
end
/-- all but the tables and what stands at m -/
def ExtM (m : Addr) (H H' : Hp) : Prop := ∀ b o, b ≠ m → H b = some o → (∀ ps, o ≠ .tbl ps) → H' b = some o
theorem ExtM.sqT {m C dx : Addr} {fs : List (Str × V)} {K : PySem.W.Frag} {H H' : Hp} (hm : H m = some (.ins C dx fs)) (e : ExtM m H H') (a : Addr) (xs : List V) (h : SqT K H a xs) : SqT K H' a xs := by
  rcases h with (h | ⟨u, h⟩) | h
  · exact .inl (.inl (e _ _ (fun z => by rw [z, hm] at h; cases h) h fun _ z => by cases z))
  · exact .inl (.inr ⟨u, e _ _ (fun z => by rw [z, hm] at h; cases h) h fun _ z => by cases z⟩)
  · exact .inr h
theorem ExtM.sqL {m C dx : Addr} {fs : List (Str × V)} {K : PySem.W.Frag} {H H' : Hp} (hm : H m = some (.ins C dx fs)) (e : ExtM m H H') (a : Addr) (xs : List V) (h : SqL K H a xs) : SqL K H' a xs := by
  rcases h with (h | ⟨u, h⟩) | h
  · exact .inl (.inl (e _ _ (fun z => by rw [z, hm] at h; cases h) h fun _ z => by cases z))
  · exact .inl (.inr ⟨u, e _ _ (fun z => by rw [z, hm] at h; cases h) h fun _ z => by cases z⟩)
  · exact .inr h
theorem ExtM.trans {m : Addr} {H H1 H2 : Hp} (a : ExtM m H H1) (b : ExtM m H1 H2) : ExtM m H H2 := fun z o nz e t => b z o nz (a z o nz e t) t
theorem ExtM.ext {m : Addr} {H H1 : Hp} (a : LamX.ExtN H H1) : ExtM m H H1 := fun z o _ e t => a z o e t
theorem ExtM.at {m : Addr} {H H1 : Hp} {o : HO} (a : ExtM m H H1) : ExtM m H (upd H1 m o) := fun z u nz e t => by
  rw [upd_ne nz]
  exact a z u nz e t
/-- doors with their names, sorted -/
theorem pairs_sorted {F : V → DoorH → Prop} {vs : List V} {ds ds0 : List DoorH} (h : Paired F vs ds) (p : ds.Perm ds0) (hs : sortedS (ds0.map DoorH.name) = true) (hn : (ds0.map DoorH.name).Nodup) :
    ∃ vs0, (((vs.zip ds).map fun z : V × DoorH => (z.1, z.2.name)).mergeSort (strLe Prod.snd)).map Prod.fst = vs0 ∧ Paired F vs0 ds0 := by
  have hl : vs.length = ds.length := Paired.length h
  have zp : ∀ {vs : List V} {ds : List DoorH}, Paired F vs ds → ∀ z ∈ vs.zip ds, F z.1 z.2 := fun {vs ds} h => by
    induction h with
    | nil => exact fun z m => absurd m (by simp)
    | cons a _ ih =>
      intro z m
      rw [List.zip_cons_cons] at m
      rcases List.mem_cons.mp m with rfl | m
      · exact a
      · exact ih z m
  have e2 : (vs.zip ds).map Prod.snd = ds := List.map_snd_zip (by omega)
  obtain ⟨L, Lp, Ls⟩ := perm_lift Prod.snd p.symm (vs.zip ds) e2
  have m := merge_names (xs := (vs.zip ds).map fun z : V × DoorH => (z.1, z.2.name)) (ys := L.map fun z : V × DoorH => (z.1, z.2.name)) (key := Prod.snd) (ns := ds0.map DoorH.name) (by
    rw [List.map_map, ← Ls, List.map_map]
    rfl) hs hn (Lp.symm.map _)
  refine ⟨L.map Prod.fst, by rw [m, List.map_map]; rfl, ?_⟩
  have zq : ∀ {L : List (V × DoorH)}, (∀ z ∈ L, F z.1 z.2) → Paired F (L.map Prod.fst) (L.map Prod.snd) := fun {L} => by
    induction L with
    | nil => exact fun _ => .nil
    | cons z L ih => exact fun g => .cons (g z List.mem_cons_self) (ih fun y m => g y (List.mem_cons_of_mem _ m))
  have := zq (L := L) fun z hz => zp h z (Lp.subset hz)
  rw [Ls] at this
  exact this
theorem tabs_at {TT : List (Addr × Str)} {H : Hp} {m C dx : Addr} {fs : List (Str × V)} {o : HO} (t : LamX.Tabs TT H) (hm : H m = some (.ins C dx fs)) : LamX.Tabs TT (upd H m o) := fun p hp => by
  obtain ⟨ps, h1, h2, h3⟩ := t p hp
  refine ⟨ps, by rw [upd_ne (fun z => by rw [z, hm] at h1; cases h1)]; exact h1, h2, fun pos cv hc => ?_⟩
  obtain ⟨c, e1, e2⟩ := h3 pos cv hc
  refine ⟨c, e1, ?_⟩
  rw [upd_ne (fun z => by
    rw [z, hm] at e2
    unfold LamX.CodeO at e2
    cases e2)]
  exact e2
theorem tabs_dk {TT : List (Addr × Str)} {H : Hp} {m : Addr} {kvs : List (Key × V)} {o : HO} (t : LamX.Tabs TT H) (hm : H m = some (.dK kvs)) : LamX.Tabs TT (upd H m o) := fun p hp => by
  obtain ⟨ps, h1, h2, h3⟩ := t p hp
  refine ⟨ps, by rw [upd_ne (fun z => by rw [z, hm] at h1; cases h1)]; exact h1, h2, fun pos cv hc => ?_⟩
  obtain ⟨c, e1, e2⟩ := h3 pos cv hc
  refine ⟨c, e1, ?_⟩
  rw [upd_ne (fun z => by
    rw [z, hm] at e2
    unfold LamX.CodeO at e2
    cases e2)]
  exact e2
theorem extM_new {m C dx a : Addr} {fs : List (Str × V)} {H Z : Hp} (e : ExtM m H Z) (hz : Z m = some (.ins C dx fs)) (n : NewT Z a) : NewT H a := by
  cases q : H a with
  | none => exact .inl q
  | some o =>
    by_cases c : ∃ ps, o = .tbl ps
    · obtain ⟨ps, rfl⟩ := c
      exact .inr ⟨ps, q⟩
    · have na : a ≠ m := fun z => by
        rcases n with n | ⟨ps, n⟩
        · rw [z, hz] at n; cases n
        · rw [z, hz] at n; cases n
      have q2 := e _ _ na q fun ps z => c ⟨ps, z⟩
      rcases n with n | ⟨ps, n⟩
      · rw [q2] at n; cases n
      · rw [q2] at n; exact absurd ⟨ps, Option.some.inj n⟩ c
theorem sorted_sub {l k : List Str} (h : sortedS l = true) (s : k.Sublist l) : sortedS k = true :=
  sortedS_of_pairwise _ (((sorted_pair h).sublist s).imp fun {a b} x => ltCps_le.mpr x)
end Wd

set_option Elab.async false
set_option linter.all false
set_option maxRecDepth 100000
set_option maxHeartbeats 4000000
/-! The doors that lead from a room. -/
namespace Wd
open PySem PySem.Spec PyProof.Rows L2
def leadsOf1 (d : DoorH) (r : Str) : List (Str × Str) := (if r = d.one then [(d.name, d.other)] else []) ++ (if d.way = "both" ∧ r = d.other then [(d.name, d.one)] else [])
def leadsH (ds : List DoorH) (r : Str) : List (Str × Str) := ds.flatMap fun d => leadsOf1 d r
def leadD (z : Str × Str) : PyData := .tuple [.str z.1, .str z.2]
def leadsKv (rooms : List Str) (la : List Addr) : List (Key × V) := (rooms.zip la).map fun z => (.inr z.1, .ref z.2)
def LeadsAt (N : Addr → Prop) (K : PySem.W.Frag) (H : Hp) (l : Addr) (rooms : List Str) (ds : List DoorH) : Prop := ∃ la : List Addr, la.length = rooms.length ∧ H l = some (.dK (leadsKv rooms la)) ∧
  ∀ z ∈ rooms.zip la, ∃ vs, N z.2 ∧ H z.2 = some (.lst vs) ∧ DqAll anyA K H vs ((leadsH ds z.1).map leadD)
theorem leads_dq {N N' : Addr → Prop} {K : PySem.W.Frag} {H H' : Hp} (n : ∀ a, N a → N' a) (s : ∀ a xs, N a → SqT K H a xs → SqT K H' a xs) : ∀ {vs : List V} {rs : List (Str × Str)}, DqAll N K H vs (rs.map leadD) → DqAll N' K H' vs (rs.map leadD)
  | [], [], _ => .nil
  | v :: vs, r :: rs, h => by
    cases h with
    | cons h1 h2 =>
      refine .cons ?_ (leads_dq n s h2)
      cases h1 with
      | tup m e q =>
        refine .tup (n _ m) (s _ _ m e) ?_
        cases q with
        | cons q1 q =>
          cases q with
          | cons q2 q =>
            cases q
            cases q1
            cases q2
            exact .cons (.str _) (.cons (.str _) .nil)
theorem dqAll_snoc {N : Addr → Prop} {K : PySem.W.Frag} {H : Hp} {v : V} {d : PyData} (x : Dq N K H v d) : ∀ {vs : List V} {ds : List PyData}, DqAll N K H vs ds → DqAll N K H (vs ++ [v]) (ds ++ [d])
  | _, _, .nil => .cons x .nil
  | _, _, .cons a r => .cons a (dqAll_snoc x r)
/-- while they grow -/
structure RL (K : PySem.W.Frag) (H : Hp) (d l : Addr) (o : HO) (rooms : List Str) (la : List Addr) (f : Str → List (Str × Str)) (Z : Hp) : Prop where
  atL : Z l = some (.dK (leadsKv rooms la))
  atD : Z d = some o
  up : ∀ b u, b ≠ d → H b = some u → Z b = some u
  each : ∀ z ∈ rooms.zip la, ∃ vs, H z.2 = none ∧ Z z.2 = some (.lst vs) ∧ DqAll anyA K Z vs ((f z.1).map leadD)
theorem RL.new {K : PySem.W.Frag} {H Z : Hp} {d l a : Addr} {o : HO} {rooms : List Str} {la : List Addr} {f : Str → List (Str × Str)} (r : RL K H d l o rooms la f Z) (n : Z a = none) (u : HO) : RL K H d l o rooms la f (upd Z a u) := by
  have s := same_new n (o := u)
  refine ⟨s _ _ r.atL, s _ _ r.atD, fun b z nb e => s _ _ (r.up b z nb e), fun z hz => ?_⟩
  obtain ⟨vs, h0, h1, h2⟩ := r.each z hz
  exact ⟨vs, h0, s _ _ h1, leads_dq (fun _ z => z) (fun a xs _ h => sqT_at (fun o => s _ o) h) h2⟩
theorem zip_fst_inj {rooms : List Str} {la : List Addr} (hn : rooms.Nodup) {z y : Str × Addr} (hz : z ∈ rooms.zip la) (hy : y ∈ rooms.zip la) (e : z.1 = y.1) : z = y := by
  obtain ⟨i, hi, rfl⟩ := List.getElem_of_mem hz
  obtain ⟨j, hj, rfl⟩ := List.getElem_of_mem hy
  rw [List.length_zip] at hi hj
  rw [List.getElem_zip, List.getElem_zip] at e ⊢
  have e' : rooms[i]'(by omega) = rooms[j]'(by omega) := e
  have ij : i = j := (List.getElem_inj hn).mp e'
  subst ij
  rfl
theorem zip_snd_inj {rooms : List Str} {la : List Addr} (hn : la.Nodup) {z y : Str × Addr} (hz : z ∈ rooms.zip la) (hy : y ∈ rooms.zip la) (e : z.2 = y.2) : z = y := by
  obtain ⟨i, hi, rfl⟩ := List.getElem_of_mem hz
  obtain ⟨j, hj, rfl⟩ := List.getElem_of_mem hy
  rw [List.length_zip] at hi hj
  rw [List.getElem_zip, List.getElem_zip] at e ⊢
  have e' : la[i]'(by omega) = la[j]'(by omega) := e
  have ij : i = j := (List.getElem_inj hn).mp e'
  subst ij
  rfl
theorem zip_at {rooms : List Str} {la : List Addr} (hl : la.length = rooms.length) {r : Str} (h : r ∈ rooms) : ∃ a, (r, a) ∈ rooms.zip la := by
  obtain ⟨i, hi, rfl⟩ := List.getElem_of_mem h
  have hi2 : i < la.length := by omega
  refine ⟨la[i], ?_⟩
  have : (rooms.zip la)[i]'(by rw [List.length_zip]; omega) = (rooms[i], la[i]) := by rw [List.getElem_zip]
  rw [← this]
  exact List.getElem_mem _
theorem valV_mem {k : Key} {v : V} : ∀ {kvs : List (Key × V)}, (kvs.map (·.1)).Nodup → (k, v) ∈ kvs → valV kvs k = some v
  | [], _, h => absurd h (by simp)
  | x :: r, n, h => by
    have n' : x.1 ∉ r.map (·.1) ∧ (r.map (·.1)).Nodup := by
      rw [List.map_cons] at n
      exact List.nodup_cons.mp n
    rcases List.mem_cons.mp h with rfl | h
    · exact valV_pos rfl
    · rw [valV_neg (fun q => n'.1 (by rw [q]; exact List.mem_map.mpr ⟨_, h, rfl⟩))]
      exact valV_mem n'.2 h
theorem leadsKv_keys {rooms : List Str} {la : List Addr} (hl : la.length = rooms.length) : (leadsKv rooms la).map (·.1) = rooms.map Sum.inr := by
  unfold leadsKv
  rw [List.map_map, show ((fun x : Key × V => x.1) ∘ fun z : Str × Addr => ((Sum.inr z.1 : Key), V.ref z.2)) = (Sum.inr : Str → Key) ∘ (Prod.fst : Str × Addr → Str) from rfl, ← List.map_map, List.map_fst_zip (by omega)]
theorem inr_nodup {rooms : List Str} (h : rooms.Nodup) : (rooms.map (Sum.inr : Str → Key)).Nodup := by
  unfold List.Nodup
  rw [List.pairwise_map]
  exact List.Pairwise.imp (fun {a b} n e => n (Sum.inr.inj e)) h
theorem leadsKv_at {rooms : List Str} {la : List Addr} (hl : la.length = rooms.length) (hn : rooms.Nodup) {r : Str} {a : Addr} (h : (r, a) ∈ rooms.zip la) : valV (leadsKv rooms la) (.inr r) = some (.ref a) :=
  valV_mem (by rw [leadsKv_keys hl]; exact inr_nodup hn) (List.mem_map.mpr ⟨_, h, rfl⟩)
/-- one more -/
theorem RL.app {K : PySem.W.Frag} {H Z : Hp} {d l a t : Addr} {o : HO} {rooms : List Str} {la : List Addr} {f : Str → List (Str × Str)} {r0 nm bh : Str} {vs : List V} (r : RL K H d l o rooms la f Z) (hn : rooms.Nodup) (ln : la.Nodup) (ho : NoLs o) (hz : (r0, a) ∈ rooms.zip la) (hv : Z a = some (.lst vs))
    (hd : DqAll anyA K Z vs ((f r0).map leadD)) (ht : Z t = some (.tup [.str nm, .str bh])) : RL K H d l o rooms la (fun q => if q = r0 then f q ++ [(nm, bh)] else f q) (upd Z a (.lst (vs ++ [.ref t]))) := by
  have sq : ∀ b xs, anyA b → SqT K Z b xs → SqT K (upd Z a (.lst (vs ++ [.ref t]))) b xs := fun b xs _ h => by
    rcases h with (h | ⟨u, h⟩) | h
    · exact .inl (.inl (by rw [upd_ne (fun e => by rw [e, hv] at h; cases h)]; exact h))
    · exact .inl (.inr ⟨u, by rw [upd_ne (fun e => by rw [e, hv] at h; cases h)]; exact h⟩)
    · exact .inr h
  obtain ⟨_, ha0, _, _⟩ := r.each _ hz
  refine ⟨by rw [upd_ne (fun e => by have := r.atL; rw [e, hv] at this; cases this)]; exact r.atL, by rw [upd_ne (fun e => by have := r.atD; rw [e, hv] at this; exact ho _ (Option.some.inj this).symm)]; exact r.atD, fun b u nb e => ?_, fun z zm => ?_⟩
  · have : b ≠ a := fun q => by
      have ha0' : H a = none := ha0
      rw [q, ha0'] at e
      cases e
    rw [upd_ne this]
    exact r.up b u nb e
  · by_cases e : z.2 = a
    · have ez : z = (r0, a) := zip_snd_inj ln zm hz e
      subst ez
      refine ⟨vs ++ [.ref t], ha0, upd_same, ?_⟩
      rw [if_pos rfl, List.map_append]
      refine dqAll_snoc ?_ (leads_dq (fun _ z => z) sq hd)
      exact .tup trivial (sq _ _ trivial (.inl (.inl ht))) (.cons (.str _) (.cons (.str _) .nil))
    · have e1 : z.1 ≠ r0 := fun q => e (by rw [zip_fst_inj hn zm hz q])
      obtain ⟨ws, h0, h1, h2⟩ := r.each z zm
      refine ⟨ws, h0, by rw [upd_ne e]; exact h1, ?_⟩
      rw [if_neg e1]
      exact leads_dq (fun _ z => z) sq h2
theorem RL.ext {K : PySem.W.Frag} {H Z : Hp} {d l : Addr} {o : HO} {rooms : List Str} {la : List Addr} {f g : Str → List (Str × Str)} (r : RL K H d l o rooms la f Z) (e : ∀ q, f q = g q) : RL K H d l o rooms la g Z := by
  have : f = g := funext e
  subst this
  exact r
theorem leadsH_snoc (ds : List DoorH) (d : DoorH) (r : Str) : leadsH (ds ++ [d]) r = leadsH ds r ++ leadsOf1 d r := by
  unfold leadsH
  rw [List.flatMap_append, List.flatMap_singleton]
theorem leadsOf1_len (d : DoorH) (r : Str) : (leadsOf1 d r).length ≤ 2 := by
  unfold leadsOf1
  rw [List.length_append]
  split <;> split <;> simp
theorem leadsH_len (ds : List DoorH) (r : Str) : (leadsH ds r).length ≤ 2 * ds.length := by
  induction ds with
  | nil => exact Nat.le_refl _
  | cons d ds ih =>
    have : leadsH (d :: ds) r = leadsOf1 d r ++ leadsH ds r := by
      unfold leadsH
      rw [List.flatMap_cons]
    rw [this, List.length_append, List.length_cons]
    have := leadsOf1_len d r
    omega
end Wd
namespace Wd
open PySem PySem.Spec PyProof.Rows L2
theorem doorsKv_get {N : Addr → Prop} {K : PySem.W.Frag} {H : Hp} : ∀ {ds : List DoorH} {kvs : List (Key × V)}, DqKv N K H kvs (doorsKv ds) → ∀ {i : Nat} (hi : i < ds.length), ∃ v, kvs[i]? = some (.inr ds[i].name, v) ∧ Dq N K H v ds[i].data
  | [], _, _, i, hi => absurd hi (by simp)
  | d :: ds, kvs, h, i, hi => by
    have e : doorsKv (d :: ds) = (.str d.name, d.data) :: doorsKv ds := rfl
    rw [e] at h
    generalize hx : PyData.str d.name = x at h
    generalize hy : d.data = y at h
    cases h with
    | @cons k v kvs' d' ds' h1 h2 =>
      cases i with
      | zero =>
        have ek : k = .inr d.name := by
          cases k with
          | inl i => cases hx
          | inr z => cases hx; rfl
        subst ek
        exact ⟨v, rfl, by rw [List.getElem_cons_zero, hy]; exact h1⟩
      | succ i =>
        obtain ⟨v', g1, g2⟩ := doorsKv_get h2 (i := i) (by simpa using hi)
        exact ⟨v', g1, g2⟩
end Wd
namespace Wd
open PySem PySem.Spec PyProof.Rows L2
def Sq (K : PySem.W.Frag) (H : Hp) (a : Addr) (xs : List V) : Prop := SqL K H a xs ∨ SqT K H a xs
def heftL (x : HallH) : List (Str × Int) := x.stones ++ x.walkers.map fun z => (z.name, z.heft)
def handL (x : HallH) : List (Str × Int) := x.walkers.map fun z => (z.name, z.hands)
theorem ints_at {hl l : List (Str × Int)} {nm : Str} {i : Int} (p : hl.Perm l) (nd : (l.map Prod.fst).Nodup) (h : (nm, i) ∈ l) : valV (stonesKv hl) (.inr nm) = some (.int i) := by
  refine valV_mem ?_ (List.mem_map.mpr ⟨(nm, i), p.mem_iff.mpr h, rfl⟩)
  rw [stonesKv_keys]
  exact inr_nodup ((p.map Prod.fst).nodup_iff.mpr nd)
theorem heftL_nodup {x : HallH} (h : x.names.Nodup) : ((heftL x).map Prod.fst).Nodup := by
  unfold heftL
  rw [List.map_append, List.map_map]
  unfold HallH.names at h
  have h2 := (List.nodup_append.mp h).2.1
  obtain ⟨h3, h4, h5⟩ := List.nodup_append.mp h2
  obtain ⟨h6, _, _⟩ := List.nodup_append.mp h4
  refine List.nodup_append.mpr ⟨h6, h3, fun a ha b hb e => h5 b hb a (List.mem_append_left _ ha) e.symm⟩
theorem handL_nodup {x : HallH} (h : x.names.Nodup) : ((handL x).map Prod.fst).Nodup := by
  unfold handL
  rw [List.map_map]
  unfold HallH.names at h
  exact (List.nodup_append.mp (List.nodup_append.mp h).2.1).1
theorem stone_inv {N : Addr → Prop} {K : PySem.W.Frag} {H : Hp} {v : V} {x : Str × Int} (h : Dq N K H v (stoneD x)) : ∃ a, v = .ref a ∧ N a ∧ SqT K H a [.str x.1, .int x.2] := by
  cases h with
  | tup n e d =>
    cases d with
    | cons h1 d =>
      cases d with
      | cons h2 d =>
        cases d
        cases h1
        cases h2
        exact ⟨_, rfl, n, e⟩
/-- a walk over a list or a tuple, either way -/
theorem seq_it {K : PySem.W.Frag} {H : Hp} {a : Addr} {xs : List V} {R : It → Hp → Prop} (h : Sq K H a xs) (q : ∀ (J : It) (G : Hp → Prop), Walk J xs.length G (YAt xs) → (∀ Z, (∀ ys, SqL K H a ys → SqL K Z a ys) → (∀ ys, SqT K H a ys → SqT K Z a ys) → G Z) → R J H) :
    ((∃ xs, SqL K H a xs) ∧ R (Itl K a) H) ∨ ((∃ xs, SqT K H a xs) ∧ R (Itt K a) H) := by
  rcases h with h | h
  · exact .inl ⟨⟨_, h⟩, q _ _ walk_list fun Z s _ => s _ h⟩
  · exact .inr ⟨⟨_, h⟩, q _ _ walk_tup fun Z _ s => s _ h⟩
/-- rooms, doors, leads of a hall in the making -/
structure Core (N : Addr → Prop) (K : PySem.W.Frag) (x : HallH) (p1 DD ld : Addr) (Z : Hp) : Prop where
  r : Z p1 = some (.lst (x.rooms.map V.str))
  d : ∃ dkv, Z DD = some (.dK dkv) ∧ DqKv anyA K Z dkv (doorsKv x.doors)
  l : LeadsAt N K Z ld x.rooms x.doors
theorem Core.up {N : Addr → Prop} {K : PySem.W.Frag} {x : HallH} {p1 DD ld m C dx : Addr} {fs : List (Str × V)} {Z Z' : Hp} (c : Core N K x p1 DD ld Z) (hm : Z m = some (.ins C dx fs)) (e : ExtM m Z Z') : Core N K x p1 DD ld Z' := by
  obtain ⟨r, ⟨dkv, d1, d2⟩, la, l1, l2, l3⟩ := c
  refine ⟨e _ _ (fun z => by rw [z, hm] at r; cases r) r (fun _ z => by cases z), ⟨dkv, e _ _ (fun z => by rw [z, hm] at d1; cases d1) d1 (fun _ z => by cases z), DqKv.sq (fun _ z => z) (ExtM.sqL hm e) (ExtM.sqT hm e) _ _ d2⟩,
    la, l1, e _ _ (fun z => by rw [z, hm] at l2; cases l2) l2 (fun _ z => by cases z), fun z hz => ?_⟩
  obtain ⟨vs, g1, g2, g3⟩ := l3 z hz
  exact ⟨vs, g1, e _ _ (fun w => by rw [w, hm] at g2; cases g2) g2 (fun _ z => by cases z), leads_dq (fun _ z => z) (fun a xs _ h => ExtM.sqT hm e a xs h) g3⟩
theorem ExtM.refl {m : Addr} {H : Hp} : ExtM m H H := fun _ _ _ e _ => e
theorem ExtM.same {m : Addr} {H H1 : Hp} (a : Same H H1) : ExtM m H H1 := fun z o _ e _ => a z o e
end Wd
namespace Wd
open PySem PySem.Spec PyProof.Rows L2
def iSeqW (K : PySem.W.Frag) (te : TE) : TI := fun σ H R => te σ H fun x H1 => ∃ a xs, x = .ref a ∧ Sq K H1 a xs ∧ ∀ (J : It) (G : Hp → Prop), Walk J xs.length G (YAt xs) → (∀ Z, (∀ ys, SqL K H1 a ys → SqL K Z a ys) → (∀ ys, SqT K H1 a ys → SqT K Z a ys) → G Z) → R J H1
theorem pi_seqW {X : Cx} {tg : Expr} {K : PySem.W.Frag} {e : Expr} {te : TE} (he : PE X e te) (hK : X.K = K := by rfl) : PI X tg e (iSeqW K te) := by
  subst hK
  refine ⟨fun pins s σ H R I q => thn (he.run pins s σ H _ I q) fun v s1 ⟨x, H1, I1, r1, q1⟩ => ?_⟩
  obtain ⟨b, xs, eb, hs, q1⟩ := q1
  subst eb
  cases r1
  rcases hs with h | h
  · exact it_list I1 h (q1 _ _ walk_list fun Z s _ => s _ h)
  · exact it_tup I1 h (q1 _ _ walk_tup fun Z _ s => s _ h)
end Wd

set_option Elab.async false
set_option linter.all false
set_option maxRecDepth 100000
set_option maxHeartbeats 4000000
/-! Data that shows short, put together. -/
namespace Wd
open PySem PySem.Spec PyProof.Rows L2
structure Neat (w dp : Nat) (d : PyData) : Prop where
  short : d.leavesShort 13 = true
  show_ : d.showable = true
  wt : d.weight ≤ w
  dp : d.depth ≤ dp
theorem Neat.mono {w w' dp dp' : Nat} {d : PyData} (n : Neat w dp d) (h : w ≤ w') (h2 : dp ≤ dp') : Neat w' dp' d := ⟨n.short, n.show_, Nat.le_trans n.wt h, Nat.le_trans n.dp h2⟩
theorem Neat.repr {w dp : Nat} {d : PyData} (n : Neat w dp d) (hw : w ≤ 2 ^ 20) (hd : dp ≤ 60) : d.showable = true ∧ d.shown.length ≤ sizeLine ∧ d.depth ≤ 60 :=
  ⟨n.show_, PyData.shown_fits (B := 13) (by decide) (by decide) n.short (Nat.le_trans n.wt hw), Nat.le_trans n.dp hd⟩
theorem neat_all {w dp : Nat} : ∀ {ds : List PyData}, (∀ d ∈ ds, Neat w dp d) → PyData.leavesShortAll 13 ds = true ∧ PyData.showableAll ds = true ∧ PyData.weightAll ds ≤ (w + 1) * ds.length ∧ PyData.depthAll ds ≤ dp
  | [], _ => ⟨rfl, rfl, by simp [PyData.weightAll], by simp [PyData.depthAll]⟩
  | d :: ds, h => by
    have n := h d (List.mem_cons_self ..)
    obtain ⟨a, b, c, e⟩ := neat_all fun x hx => h x (List.mem_cons_of_mem _ hx)
    refine ⟨?_, ?_, ?_, ?_⟩
    · simp [PyData.leavesShortAll, n.short, a]
    · simp [PyData.showableAll, n.show_, b]
    · simp only [PyData.weightAll, List.length_cons]
      have := n.wt
      rw [Nat.mul_succ]
      omega
    · simp only [PyData.depthAll]
      have := n.dp
      omega
theorem neat_lst {w dp m : Nat} {ds : List PyData} (h : ∀ d ∈ ds, Neat w dp d) (hm : ds.length ≤ m) : Neat ((w + 1) * m) (dp + 1) (.list ds) := by
  obtain ⟨a, b, c, e⟩ := neat_all h
  refine ⟨by rw [PyData.leavesShort]; exact a, by rw [PyData.showable]; exact b, ?_, by rw [PyData.depth]; omega⟩
  rw [PyData.weight]
  exact Nat.le_trans c (Nat.mul_le_mul_left _ hm)
theorem neat_tup {w dp m : Nat} {ds : List PyData} (h : ∀ d ∈ ds, Neat w dp d) (hm : ds.length ≤ m) : Neat ((w + 1) * m) (dp + 1) (.tuple ds) := by
  obtain ⟨a, b, c, e⟩ := neat_all h
  refine ⟨by rw [PyData.leavesShort]; exact a, by rw [PyData.showable]; exact b, ?_, by rw [PyData.depth]; omega⟩
  rw [PyData.weight]
  exact Nat.le_trans c (Nat.mul_le_mul_left _ hm)
theorem neat_none : Neat 0 0 .none := ⟨rfl, rfl, Nat.le_refl _, Nat.le_refl _⟩
theorem neat_int {i : Int} (h : i.natAbs < 10 ^ 10) : Neat 51 0 (.int i) := by
  have l2 : i.natAbs.log2 ≤ 50 := by
    by_cases z : i.natAbs = 0
    · rw [z]; decide
    · exact Nat.le_of_lt ((Nat.log2_lt z).mpr (show i.natAbs < 2 ^ 50 by omega))
  refine ⟨?_, ?_, ?_, by simp [PyData.depth]⟩
  · show decide _ = true
    exact decide_eq_true (PyData.shown_int_le (by omega))
  · show decide _ = true
    exact decide_eq_true (by omega)
  · show (if i == 0 then 0 else i.natAbs.log2 + 1) ≤ 51
    split <;> omega
theorem neat_heft {i : Int} (h : 0 ≤ i) (h2 : i ≤ 9999999) : Neat 51 0 (.int i) := neat_int (by omega)
theorem neat_str {x : Str} {n : Nat} (h : ∀ c ∈ x.cps.toList, c < 16 ^ 8) (hl : x.length ≤ n) : Neat n 0 (.str x) := by
  refine ⟨?_, rfl, ?_, by simp [PyData.depth]⟩
  · rw [PyData.leavesShort, List.all_eq_true]
    exact fun c hc => decide_eq_true (h c hc)
  · rw [PyData.weight]
    exact hl
theorem neat_name {x : Str} (h : NameOk x) : Neat 8 0 (.str x) := neat_str (fun c hc => by have := (h.2.2 c hc).2; omega) (name_len h).2
theorem neat_row {r : RowH} (h : r.ok) (hn : NameOk r.room) : Neat 156 1 r.data := by
  obtain ⟨h1, h2, h3⟩ := h
  unfold RowH.data
  refine neat_tup (w := 51) (dp := 0) (m := 3) (fun d hd => ?_) (by simp)
  rcases List.mem_cons.mp hd with rfl | hd
  · exact (neat_name hn).mono (by decide) (Nat.le_refl _)
  rcases List.mem_cons.mp hd with rfl | hd
  · exact neat_heft h1 h2
  rw [List.mem_singleton.mp hd]
  cases e : r.most with
  | none => exact neat_none.mono (by decide) (Nat.le_refl _)
  | some m =>
    obtain ⟨a, b⟩ := h3 m e
    exact neat_heft (by omega) b
theorem neat_way {rooms : List Str} {d : DoorH} (h : DoorOk rooms d) : Neat 8 0 (.str d.way) := by
  rcases h.way with ⟨e, _⟩ | e
  · rw [e]; exact neat_name (by decide +kernel)
  · rw [e]; exact neat_name (by decide +kernel)
theorem neat_rows {rooms : List Str} {rs : List RowH} (h : RowsOk rooms rs) (hn : ∀ x ∈ rooms, NameOk x) : Neat 628 2 (rowsData rs) :=
  neat_tup (w := 156) (m := 4) (fun d hd => by
    obtain ⟨r, hr, rfl⟩ := List.mem_map.mp hd
    exact neat_row (h.each r hr) (hn _ (h.sub.subset (List.mem_map.mpr ⟨r, hr, rfl⟩)))) (by rw [List.length_map]; exact h.few)
theorem neat_door {rooms : List Str} {d : DoorH} (h : DoorOk rooms d) (hn : ∀ x ∈ rooms, NameOk x) : Neat 2516 3 d.data := by
  unfold DoorH.data
  refine neat_tup (w := 628) (dp := 2) (m := 4) (fun z hz => ?_) (by simp)
  rcases List.mem_cons.mp hz with rfl | hz
  · exact (neat_name (hn _ h.one)).mono (by decide) (by decide)
  rcases List.mem_cons.mp hz with rfl | hz
  · exact (neat_name (hn _ h.other)).mono (by decide) (by decide)
  rcases List.mem_cons.mp hz with rfl | hz
  · exact (neat_way h).mono (by decide) (by decide)
  rw [List.mem_singleton.mp hz]
  exact neat_rows h.rows hn
theorem neat_stone {s : Str × Int} (h : NameOk s.1) (h0 : 0 ≤ s.2) (h1 : s.2 ≤ 9999999) : Neat 104 1 (stoneD s) := by
  unfold stoneD
  refine neat_tup (w := 51) (dp := 0) (m := 2) (fun z hz => ?_) (by simp)
  rcases List.mem_cons.mp hz with rfl | hz
  · exact (neat_name h).mono (by decide) (by decide)
  rw [List.mem_singleton.mp hz]
  exact neat_heft h0 h1
theorem neat_walker {x : WalkH} (h : x.ok) (hn : NameOk x.name) : Neat 156 1 x.data := by
  obtain ⟨h1, h2, h3⟩ := h
  unfold WalkH.data
  refine neat_tup (w := 51) (dp := 0) (m := 3) (fun z hz => ?_) (by simp)
  rcases List.mem_cons.mp hz with rfl | hz
  · exact (neat_name hn).mono (by decide) (by decide)
  rcases List.mem_cons.mp hz with rfl | hz
  · exact neat_heft h1 h2
  rw [List.mem_singleton.mp hz]
  exact neat_heft (by rcases h3 with e | e | e | e | e <;> rw [e] <;> decide) (by rcases h3 with e | e | e | e | e <;> rw [e] <;> decide)
theorem neat_names {xs : List Str} {m : Nat} (h : ∀ x ∈ xs, NameOk x) (hm : xs.length ≤ m) : Neat (9 * m) 1 (.list (xs.map PyData.str)) :=
  neat_lst (w := 8) (fun d hd => by
    obtain ⟨x, hx, rfl⟩ := List.mem_map.mp hd
    exact neat_name (h x hx)) (by rw [List.length_map]; exact hm)
end Wd
namespace Wd
open PySem PySem.Spec PyProof.Rows L2
mutual
def tOnly : PyData → Bool
  | .none => true
  | .bool _ => true
  | .int _ => true
  | .str _ => true
  | .tuple ds => tOnlyAll ds
  | .list _ => false
  | .dict _ => false
def tOnlyAll : List PyData → Bool
  | [] => true
  | d :: ds => tOnly d && tOnlyAll ds
end
section
variable {N N' : Addr → Prop} {K : PySem.W.Frag} {H H' : Hp}
mutual
/-- data of tuples alone lives as long as its tuples do -/
theorem Dq.moveT (n : ∀ a, N a → N' a) (s : ∀ a xs, N a → SqT K H a xs → SqT K H' a xs) : ∀ (d : PyData) (v : V), tOnly d = true → Dq N K H v d → Dq N' K H' v d
  | .none, _, _, h => by cases h; exact .non
  | .bool b, _, _, h => by cases h; exact .bl b
  | .int i, _, _, h => by cases h; exact .int i
  | .str x, _, _, h => by cases h; exact .str x
  | .tuple ds, _, f, h => by
    cases h with
    | tup z hq ha => exact .tup (n _ z) (s _ _ z hq) (DqAll.moveT n s ds _ (by rw [tOnly] at f; exact f) ha)
  | .list ds, _, f, _ => by rw [tOnly] at f; cases f
  | .dict ds, _, f, _ => by rw [tOnly] at f; cases f
theorem DqAll.moveT (n : ∀ a, N a → N' a) (s : ∀ a xs, N a → SqT K H a xs → SqT K H' a xs) : ∀ (ds : List PyData) (vs : List V), tOnlyAll ds = true → DqAll N K H vs ds → DqAll N' K H' vs ds
  | [], _, _, h => by cases h; exact .nil
  | d :: ds, _, f, h => by
    rw [tOnlyAll, Bool.and_eq_true] at f
    cases h with
    | cons h1 h2 => exact .cons (Dq.moveT n s d _ f.1 h1) (DqAll.moveT n s ds _ f.2 h2)
end
end
theorem tOnly_map {α : Type} {f : α → PyData} (h : ∀ a, tOnly (f a) = true) : ∀ l : List α, tOnlyAll (l.map f) = true
  | [] => rfl
  | a :: l => by rw [List.map_cons, tOnlyAll, h a, tOnly_map h l]; rfl
theorem tOnly_row (r : RowH) : tOnly r.data = true := by
  unfold RowH.data
  cases r.most <;> rfl
theorem tOnly_door (d : DoorH) : tOnly d.data = true := by
  unfold DoorH.data rowsData
  simp only [tOnly, tOnlyAll, tOnly_map tOnly_row, Bool.and_self]
theorem tOnly_stone (d : Str × Int) : tOnly (stoneD d) = true := rfl
theorem tOnly_walk (d : WalkH) : tOnly d.data = true := rfl
theorem sqT_lst {K : PySem.W.Frag} {H : Hp} {l a : Addr} {ys xs : List V} {o : HO} (e : H l = some (.lst ys)) (h : SqT K H a xs) : SqT K (upd H l o) a xs := by
  rcases h with (h | ⟨u, h⟩) | h
  · exact .inl (.inl (by rw [upd_ne (fun z => by rw [z, e] at h; cases h)]; exact h))
  · exact .inl (.inr ⟨u, by rw [upd_ne (fun z => by rw [z, e] at h; cases h)]; exact h⟩)
  · exact .inr h
end Wd
namespace Wd
open PySem PySem.Spec PyProof.Rows L2
theorem DqKv.moveT {N N' : Addr → Prop} {K : PySem.W.Frag} {H H' : Hp} (n : ∀ a, N a → N' a) (s : ∀ a xs, N a → SqT K H a xs → SqT K H' a xs) : ∀ (ds : List DoorH) (kvs : List (Key × V)), DqKv N K H kvs (doorsKv ds) → DqKv N' K H' kvs (doorsKv ds)
  | [], _, h => by cases h; exact .nil
  | d :: ds, kvs, h => by
    have e : doorsKv (d :: ds) = (.str d.name, d.data) :: doorsKv ds := rfl
    rw [e] at h ⊢
    generalize hx : PyData.str d.name = x at h ⊢
    cases h with
    | cons h1 h2 => exact .cons (Dq.moveT n s _ _ (tOnly_door d) h1) (DqKv.moveT n s ds _ h2)
end Wd

set_option Elab.async false
set_option linter.all false
set_option maxRecDepth 100000
set_option maxHeartbeats 4000000
/-! What lives past a made hall. -/
namespace Wd
open PySem PySem.Spec PyProof.Rows L2
theorem tabs_move {TT : List (Addr × Str)} {H H' : Hp} (s : ∀ b o, (∀ l, o ≠ .lst l) → (∀ l, o ≠ .dK l) → H b = some o → H' b = some o) (t : LamX.Tabs TT H) : LamX.Tabs TT H' := fun p hp => by
  obtain ⟨ps, h1, h2, h3⟩ := t p hp
  refine ⟨ps, s _ _ (fun _ z => by cases z) (fun _ z => by cases z) h1, h2, fun pos cv hc => ?_⟩
  obtain ⟨c, e1, e2⟩ := h3 pos cv hc
  refine ⟨c, e1, s _ _ (fun _ z => ?_) (fun _ z => ?_) e2⟩
  · unfold LamX.CodeO at z; cases z
  · unfold LamX.CodeO at z; cases z
theorem tabs_kp {TT : List (Addr × Str)} {H H' : Hp} {p : Addr} {kvs : List (Key × V)} (t : LamX.Tabs TT H) (hp : H p = some (.dK kvs)) (k : Kp p H H') : LamX.Tabs TT H' :=
  tabs_move (fun b o _ nd e => k b o (fun z => by rw [z, hp] at e; exact nd _ (Option.some.inj e).symm) e) t
theorem tabs_lst {TT : List (Addr × Str)} {H : Hp} {l : Addr} {ys : List V} {o : HO} (t : LamX.Tabs TT H) (hp : H l = some (.lst ys)) : LamX.Tabs TT (upd H l o) :=
  tabs_move (fun b o nl _ e => by rw [upd_ne (fun z => by rw [z, hp] at e; exact nl _ (Option.some.inj e).symm)]; exact e) t
theorem newT_same {H H' : Hp} {a : Addr} (s : Same H H') (n : NewT H' a) : NewT H a := by
  cases q : H a with
  | none => exact .inl q
  | some o =>
    have q2 := s _ _ q
    rcases n with n | ⟨ps, n⟩
    · rw [n] at q2; cases q2
    · rw [n] at q2; exact .inr ⟨ps, by rw [q]; exact q2.symm⟩
theorem ExtM.sqT2 {m : Addr} {kvs : List (Key × V)} {K : PySem.W.Frag} {H H' : Hp} (hm : H m = some (.dK kvs)) (e : ExtM m H H') (a : Addr) (xs : List V) (h : SqT K H a xs) : SqT K H' a xs := by
  rcases h with (h | ⟨u, h⟩) | h
  · exact .inl (.inl (e _ _ (fun z => by rw [z, hm] at h; cases h) h fun _ z => by cases z))
  · exact .inl (.inr ⟨u, e _ _ (fun z => by rw [z, hm] at h; cases h) h fun _ z => by cases z⟩)
  · exact .inr h
theorem HallAt.extM {p : Addr} {kvs : List (Key × V)} {K : PySem.W.Frag} {H H' : Hp} {h : Addr} {x : HallH} (hp : H p = some (.dK kvs)) (e : ExtM p H H') (hh : HallAt (· ≠ p) K H h x) : HallAt (· ≠ p) K H' h x := by
  obtain ⟨d, st, w, r, dkv, wvs, n1, n2, n3, n4, n5, h1, h2, h3, h4, h5, h6, h7⟩ := hh
  exact ⟨d, st, w, r, dkv, wvs, n1, n2, n3, n4, n5, e _ _ n1 h1 (fun _ z => by cases z), e _ _ n2 h2 (fun _ z => by cases z), DqKv.moveT (fun _ z => z) (fun a xs _ h => ExtM.sqT2 hp e a xs h) _ _ h3, e _ _ n3 h4 (fun _ z => by cases z), e _ _ n4 h5 (fun _ z => by cases z),
    DqAll.moveT (fun _ z => z) (fun a xs _ h => ExtM.sqT2 hp e a xs h) _ _ (tOnly_map tOnly_walk _) h6, e _ _ n5 h7 (fun _ z => by cases z)⟩
theorem ExtM.kp {p : Addr} {H H' : Hp} (k : Kp p H H') : ExtM p H H' := fun b o n e _ => k b o n e
theorem ExtM.extN {m : Addr} {H H1 : Hp} (a : LamX.ExtN H H1) : ExtM m H H1 := fun z o _ e t => a z o e t
theorem ExtM.wr {p l : Addr} {H G : Hp} {o : HO} (e : ExtM p H G) (n : H l = none) : ExtM p H (upd G l o) := fun b u nb eb t => by
  rw [upd_ne (fun z => by rw [z, n] at eb; cases eb)]
  exact e b u nb eb t
/-- what is handed in shows short -/
theorem part_data {p lf : Addr} {K : PySem.W.Frag} {H : Hp} {v : V} {z : DoorH × Option Addr} {rooms : List Str} (h : PartD p lf K H v z) (hd : DoorOk rooms z.1) (hn : ∀ x ∈ rooms, NameOk x) (hz : NameOk z.1.name) : ∃ d, Dq (· ≠ p) K H v d ∧ Neat 3145 3 d ∧ d.hasDict = false := by
  obtain ⟨t, tt, one, other, rows, rvs, rfl, nt, sq, en, rp, dq, l, ntt⟩ := h
  have hone : NameOk one ∧ NameOk other := by
    rcases en with ⟨rfl, rfl⟩ | ⟨_, rfl, rfl⟩
    · exact ⟨hn _ hd.one, hn _ hd.other⟩
    · exact ⟨hn _ hd.other, hn _ hd.one⟩
  have nr : ∀ d ∈ rows.map RowH.data, Neat 156 1 d := fun d hm => by
    obtain ⟨r, hr, rfl⟩ := List.mem_map.mp hm
    have hr' := rp.mem_iff.mp hr
    exact neat_row (hd.rows.each r hr') (hn _ (hd.rows.sub.subset (List.mem_map.mpr ⟨r, hr', rfl⟩)))
  have lr : (rows.map RowH.data).length ≤ 4 := by rw [List.length_map, rp.length_eq]; exact hd.rows.few
  have hdict : PyData.hasDictAll (rows.map RowH.data) = false := rows_noDict rows
  have fin : ∀ rd : PyData, Dq (· ≠ p) K H (.ref tt) rd → Neat 628 2 rd → rd.hasDict = false → ∃ d, Dq (· ≠ p) K H (.ref t) d ∧ Neat 3145 3 d ∧ d.hasDict = false := fun rd q1 q2 q3 => by
    refine ⟨.tuple [.str z.1.name, .str one, .str other, .str z.1.way, rd], .tup nt sq (.cons (.str _) (.cons (.str _) (.cons (.str _) (.cons (.str _) (.cons q1 .nil))))), ?_, ?_⟩
    · refine neat_tup (w := 628) (dp := 2) (m := 5) (fun d hm => ?_) (by simp)
      rcases List.mem_cons.mp hm with rfl | hm
      · exact (neat_name hz).mono (by decide) (by decide)
      rcases List.mem_cons.mp hm with rfl | hm
      · exact (neat_name hone.1).mono (by decide) (by decide)
      rcases List.mem_cons.mp hm with rfl | hm
      · exact (neat_name hone.2).mono (by decide) (by decide)
      rcases List.mem_cons.mp hm with rfl | hm
      · exact (neat_way hd).mono (by decide) (by decide)
      rw [List.mem_singleton.mp hm]
      exact q2
    · simp [PyData.hasDict, PyData.hasDictAll, q3]
  rcases l with ⟨_, l2, _⟩ | ⟨_, l2⟩
  · exact fin (.list (rows.map RowH.data)) (.lst ntt (.inl (.inl l2)) dq) (neat_lst (w := 156) (m := 4) nr lr) (by simpa [PyData.hasDict] using hdict)
  · exact fin (.tuple (rows.map RowH.data)) (.tup ntt l2 dq) (neat_tup (w := 156) (m := 4) nr lr) (by simpa [PyData.hasDict] using hdict)
theorem parts_data {p lf : Addr} {K : PySem.W.Frag} {H : Hp} {rooms : List Str} (hn : ∀ x ∈ rooms, NameOk x) : ∀ {vs : List V} {zs : List (DoorH × Option Addr)}, Paired (PartD p lf K H) vs zs → (∀ z ∈ zs, DoorOk rooms z.1 ∧ NameOk z.1.name) →
    ∃ ds, DqAll (· ≠ p) K H vs ds ∧ (∀ d ∈ ds, Neat 3145 3 d) ∧ PyData.hasDictAll ds = false ∧ ds.length = zs.length
  | [], [], _, _ => ⟨[], .nil, fun _ m => absurd m (by simp), rfl, rfl⟩
  | v :: vs, z :: zs, h, ok => by
    cases h with
    | cons h1 h2 =>
      obtain ⟨d, q1, q2, q3⟩ := part_data h1 (ok z List.mem_cons_self).1 hn (ok z List.mem_cons_self).2
      obtain ⟨ds, g1, g2, g3, g4⟩ := parts_data hn h2 fun y hy => ok y (List.mem_cons_of_mem _ hy)
      refine ⟨d :: ds, .cons q1 g1, fun e he => ?_, by simp only [PyData.hasDictAll, q3, g3, Bool.or_self], by simp only [List.length_cons, g4]⟩
      rcases List.mem_cons.mp he with rfl | he
      · exact q2
      · exact g2 e he
theorem walks_dict : ∀ ws : List WalkH, PyData.hasDictAll (ws.map WalkH.data) = false := walks_noDict
end Wd
namespace Wd
open PySem PySem.Spec PyProof.Rows L2
theorem strs_noDict : ∀ l : List Str, PyData.hasDictAll (l.map PyData.str) = false
  | [] => rfl
  | x :: r => by rw [List.map_cons]; simp only [PyData.hasDictAll, strs_noDict r, Bool.or_false]; rfl
theorem tyX_sqT {K : PySem.W.Frag} {H : Hp} {a : Addr} {xs : List V} (h : SqT K H a xs) : TyX K H (.ref a) (.type "tuple") := by
  rcases h with (h | ⟨u, h⟩) | ⟨o, its, n, h1, h2, _⟩
  · exact .base (.tup h)
  · exact .fTuple h
  · exact .kTuple h1 h2
end Wd

set_option Elab.async false
set_option linter.all false
set_option maxRecDepth 100000
set_option maxHeartbeats 4000000
/-! count of texts in a list or in a tuple. -/
namespace Wd
open PySem PySem.Spec PyProof.Rows L2
def eqs (k : Str) (v : Value) : Bool := match v with
  | .str n _ => n.cps.toList == k.cps.toList
  | _ => false
theorem eqs_at {k : Str} {t : Tok} : ∀ {us : List Value} {ns : List Str}, Vals (ns.map V.str) us → ∀ y ∈ us, MeetsSeq.EqGives y (.str k t) (eqs k y)
  | [], [], _, y, hy => by cases hy
  | u :: us, n :: ns, .cons r rs, y, hy => by
    obtain ⟨t', rfl⟩ := r
    rcases List.mem_cons.mp hy with rfl | hy
    · exact SeqRoads2.EqGives.str n k t' t
    · exact eqs_at rs y hy
theorem str_ext {a b : Str} (h : a.cps.toList = b.cps.toList) : a = b := by
  cases a; cases b
  simp only at h
  congr 1
  exact Array.toList_inj.mp h
theorem eqs_count {k : Str} : ∀ {us : List Value} {ns : List Str}, Vals (ns.map V.str) us → us.countP (eqs k) = ns.count k
  | [], [], _ => rfl
  | u :: us, n :: ns, .cons r rs => by
    obtain ⟨t', rfl⟩ := r
    rw [List.countP_cons, List.count_cons, eqs_count rs]
    congr 1
    by_cases e : n = k
    · subst e
      simp [eqs]
    · have : eqs k (.str n t') = false := by
        show (n.cps.toList == k.cps.toList) = false
        exact beq_eq_false_iff_ne.mpr fun z => e (str_ext z)
      simp [this, e]
section
variable {X : Cx}
def rCntS (K : PySem.W.Frag) : V → List V → Hp → VK → Prop := fun x xs H Q => ∃ (p : Addr) (ns : List Str) (k : Str), x = .ref p ∧ xs = [.str k] ∧ SqL K H p (ns.map V.str) ∧ Q (.int (ns.count k : Nat)) H
theorem mt_countL {K : PySem.W.Frag} (hK : X.K = K := by rfl) : MtR X "list.count" (rCntS K) := by
  subst hK
  intro pins s σ H x xs v us Q I rx rxs h
  obtain ⟨p, ns, k, rfl, rfl, hs, q⟩ := h
  cases rx
  obtain ⟨u, rfl, ru⟩ := rxs.one
  obtain ⟨t, rfl⟩ := ru
  obtain ⟨its, rv, ⟨⟨cls, dd, data, sl⟩, n, ho, hc, hdn, hd⟩, hlen⟩ := I.list hs
  simp only at hc hd
  subst hc hd
  refine call_meets PySem.F.slot_list_count ⟨_, ho, rfl⟩ PySem.F.entry_list_count (PySem.F.args_list_count_2 _ _)
    (SeqAt.list_countAt p its.toArray n dd sl (.str k t) (eqs k)) ⟨ho, fun y hy => (eqs_at rv y (by simpa using hy)).at _ _, ?_⟩
  refine ⟨.int (ns.count k : Nat), H, I.tok _, ⟨s.toks, ?_⟩, q⟩
  show Value.int ((its.toArray.toList.countP (eqs k) : Nat) : Int) s.toks = Value.int ((ns.count k : Nat) : Int) s.toks
  rw [show its.toArray.toList = its from by simp, eqs_count rv]
def rCntT (K : PySem.W.Frag) : V → List V → Hp → VK → Prop := fun x xs H Q => ∃ (p : Addr) (ns : List Str) (k : Str), x = .ref p ∧ xs = [.str k] ∧ SqT K H p (ns.map V.str) ∧ Q (.int (ns.count k : Nat)) H
theorem mt_countT {K : PySem.W.Frag} (hK : X.K = K := by rfl) : MtR X "tuple.count" (rCntT K) := by
  subst hK
  intro pins s σ H x xs v us Q I rx rxs h
  obtain ⟨p, ns, k, rfl, rfl, hs, q⟩ := h
  cases rx
  obtain ⟨u, rfl, ru⟩ := rxs.one
  obtain ⟨t, rfl⟩ := ru
  obtain ⟨its, rv, ⟨⟨cls, dd, data, sl⟩, ho, hc, n, hd⟩, hlen⟩ := I.tuple hs
  simp only at hc hd
  subst hc hd
  refine call_meets PySem.F.slot_tuple_count ⟨_, ho, rfl⟩ PySem.F.entry_tuple_count (PySem.F.args_tuple_count_2 _ _)
    (SeqAt.tuple_countAt p its.toArray n dd sl (.str k t) (eqs k)) ⟨ho, fun y hy => (eqs_at rv y (by simpa using hy)).at _ _, ?_⟩
  refine ⟨.int (ns.count k : Nat), H, I.tok _, ⟨s.toks, ?_⟩, q⟩
  show Value.int ((its.toArray.toList.countP (eqs k) : Nat) : Int) s.toks = Value.int ((ns.count k : Nat) : Int) s.toks
  rw [show its.toArray.toList = its from by simp, eqs_count rv]
theorem pe_bmK {K : PySem.W.Frag} {T id name : String} {r : V → List V → Hp → VK → Prop} {o e : Expr} {es : List Expr} {to : TE} {t : TA} {apos cpos : Pos} (pa : PlainAttrs T) (slot : Slot T name id) (hty : typeOf (.builtin id) = pure (.type "method_descriptor")) (hm : MtR X id r) (ho : PE X o to) (ha : PA X (e :: es) t) (hK : X.K = K := by rfl)
    (hbase : attributeBase o name X.env (eval o X.env) = eval o X.env := by rfl)
    (hfew : ((backTo cpos (starEach (e :: es) X.env)).all (fun x => !x.1) && (backToKw cpos (keywordEach [] X.env)).all (fun x => x.1.isSome)
      && decide ((e :: es).length + ([] : List Keyword).length + (if ([] : List Keyword).isEmpty then 0 else 1) < 30)) = true := by rfl)
    (hline : (apos.endLine == cpos.line) = true := by rfl) (hs : starEach (e :: es) X.env = (false, eval e X.env) :: starEach es X.env := by rfl) (hplain : (backTo cpos (starEach es X.env)).any (·.1) = false := by rfl) :
    PE X (.Call (.Attribute o name apos) (e :: es) [] cpos) (tBM K T r to t) := by
  subst hK
  exact pe_bm pa slot hty hm ho ha hbase hfew hline hs hplain
end
end Wd

set_option Elab.async false
set_option linter.all false
set_option maxRecDepth 100000
set_option maxHeartbeats 4000000
/-! Tuples whose object is known to have no dict: their methods may be called. -/
namespace Wd
open PySem PySem.Spec PyProof.Rows L2
def FT (H : Hp) (a : Addr) (xs : List V) : Prop := ∃ o : Obj, H a = some (.frz o (.tup xs)) ∧ o.dict = none
theorem FT.sqT {K : PySem.W.Frag} {H : Hp} {a : Addr} {xs : List V} (h : FT H a xs) : SqT K H a xs := by
  obtain ⟨o, h, _⟩ := h
  exact .inl (.inr ⟨o, h⟩)
theorem FT.at {H H' : Hp} {a : Addr} {xs : List V} (s : ∀ o, (∀ ps, o ≠ .tbl ps) → (∀ l, o ≠ .lst l) → (∀ l, o ≠ .dK l) → H a = some o → H' a = some o) (h : FT H a xs) : FT H' a xs := by
  obtain ⟨o, h, d⟩ := h
  exact ⟨o, s _ (fun _ z => by cases z) (fun _ z => by cases z) (fun _ z => by cases z) h, d⟩
theorem FT.same {H H' : Hp} {a : Addr} {xs : List V} (s : Same H H') (h : FT H a xs) : FT H' a xs := h.at fun o _ _ _ e => s _ o e
theorem FT.ne {H : Hp} {a b : Addr} {xs ys : List V} (h : FT H a xs) (g : H b = some (.lst ys)) : a ≠ b := fun z => by
  obtain ⟨o, h, _⟩ := h
  rw [z, g] at h
  cases h
theorem FT.neD {H : Hp} {a b : Addr} {xs : List V} {kvs : List (Key × V)} (h : FT H a xs) (g : H b = some (.dK kvs)) : a ≠ b := fun z => by
  obtain ⟨o, h, _⟩ := h
  rw [z, g] at h
  cases h
theorem FT.upd {H : Hp} {a b : Addr} {xs : List V} {o : HO} (h : FT H a xs) (n : a ≠ b) : FT (upd H b o) a xs := h.at fun _ _ _ _ e => by rw [upd_ne n]; exact e
def kTupF (K : PySem.W.Frag) (x : V) (H : Hp) (Q : VK) : Prop := ∃ p xs, x = .ref p ∧ SqL K H p xs ∧ ∀ q (o : Obj), H q = none → o.dict = none → Q (.ref q) (upd H q (.frz o (.tup xs)))
section
variable {X : Cx} {a : Expr} {ta : TE}
theorem rl_tupleF {K : PySem.W.Frag} (pins : List (Addr × Obj)) (s : Shared) (σ : L2.St) (H : Hp) (x : V) (v : Value) (Q : VK) (I : Inv X pins σ H s) (r : RelV x v) (h : kTupF X.K x H Q) :
    wpAny (model X.prog X.w) X.A (call (.type "tuple") [v]) (EP X pins σ Q) X.xe s := by
  obtain ⟨p, xs, rfl, hs, q⟩ := h
  obtain rfl : v = .ref p := r
  obtain ⟨its, rv, pl, hz⟩ := I.list hs
  refine call_tuple_list pl.isList (fun h' hk => ?_) (by rw [List.size_toArray, ← rv.length]; exact hz)
  have I1 : Inv X pins σ H { s with heap := h' } := I.kept (t' := s.toks) hk
  have I2 : Inv X pins σ (upd H h'.objs.size (.frz { cls := .type "tuple", data := .seq its.toArray } (.tup xs))) { s with heap := h'.push { cls := .type "tuple", data := .seq its.toArray } } :=
    I1.laid (t' := s.toks) (fun b o e => Heap.get?_push_of_some _ e) (Nat.le_refl _) (show ObjOk X.prog X.w _ _ _ (.frz _ (.tup xs)) from ⟨Heap.get?_push_size _ rfl, hz, its, rv, IsTup.new _ _⟩)
  exact ⟨.ref h'.objs.size, upd H h'.objs.size _, I2, rfl, q _ _ (I1.hok.fresh (Nat.le_refl _)) rfl⟩
theorem pe_tupleF {K : PySem.W.Frag} {p pos : Pos} (hg : Gl X "tuple") (hm : X.mg "tuple" = none) (ha : PE X a ta) (hK : X.K = K := by rfl) (na : starEach [a] X.env = (false, eval a X.env) :: starEach [] X.env := by rfl) :
    PE X (.Call (.Name "tuple" p) [a] [] pos) (tThen ta (kTupF K)) := by
  subst hK
  refine ⟨fun pins s σ H Q I h => ?_⟩
  exact Call_ (ld_blt I hg hm boot_tuple (PyProof.Rows.callWith_type1 (one_arg ha I h (fun v s2 x H2 I2 r q => rl_tupleF (K := X.K) pins s2 σ H2 x v Q I2 r q) na) na))
/-- a tuple that is written -/
def tTupF (t : TA) : TE := fun σ H Q => t σ H fun xs H1 => xs.length ≤ sizeLine ∧ ∀ p (o : Obj), H1 p = none → o.dict = none → Q (.ref p) (upd H1 p (.frz o (.tup xs)))
theorem pe_tupF {es : List Expr} {t : TA} {x1} {pos : Pos} (h : PA X es t) : PE X (.Tuple es x1 pos) (tTupF t) := by
  refine ⟨fun pins s σ H Q I hq => ?_⟩
  refine wpAny_Tuple_spliced (thn (h.run pos pins s σ H _ I hq) fun us s1 ⟨xs, H1, I1, r, z, q⟩ => ⟨by rw [← r.length]; exact z, ?_⟩)
  have hf : H1 s1.heap.objs.size = none := I1.hok.fresh (Nat.le_refl _)
  refine ⟨.ref s1.heap.objs.size, upd H1 s1.heap.objs.size _, I1.laid (t' := s1.toks) (fun b u e => Heap.get?_push_of_some _ e) (Nat.le_refl _) ?_, rfl, q _ { cls := .type "tuple", data := .seq us.toArray } hf rfl⟩
  exact ⟨Heap.get?_push_size _ rfl, z, us, r, ⟨_, Heap.get?_push_size _ rfl, rfl, _, rfl⟩⟩
/-- a method of such a tuple -/
def tBMT (r : V → List V → Hp → VK → Prop) (to : TE) (t : TA) : TE := fun σ H Q => to σ H fun x H1 => (∃ p xs, x = .ref p ∧ FT H1 p xs) ∧ t σ H1 fun xs H2 => r x xs H2 Q
theorem pe_bmT {id name : String} {r : V → List V → Hp → VK → Prop} {o e : Expr} {es : List Expr} {to : TE} {t : TA} {apos cpos : Pos} (pa : PlainAttrs "tuple") (slot : Slot "tuple" name id) (hty : typeOf (.builtin id) = pure (.type "method_descriptor")) (hm : MtR X id r) (ho : PE X o to) (ha : PA X (e :: es) t)
    (hbase : attributeBase o name X.env (eval o X.env) = eval o X.env := by rfl)
    (hfew : ((backTo cpos (starEach (e :: es) X.env)).all (fun x => !x.1) && (backToKw cpos (keywordEach [] X.env)).all (fun x => x.1.isSome)
      && decide ((e :: es).length + ([] : List Keyword).length + (if ([] : List Keyword).isEmpty then 0 else 1) < 30)) = true := by rfl)
    (hline : (apos.endLine == cpos.line) = true := by rfl) (hs : starEach (e :: es) X.env = (false, eval e X.env) :: starEach es X.env := by rfl) (hplain : (backTo cpos (starEach es X.env)).any (·.1) = false := by rfl) :
    PE X (.Call (.Attribute o name apos) (e :: es) [] cpos) (tBMT r to t) := by
  refine ⟨fun pins s σ H Q I h => ?_⟩
  refine wpAny_Call_method_late hbase hfew hline rfl (thn (ho.run pins s σ H _ I h) fun v s1 ⟨x, H1, I1, r1, ⟨p, xs, ex, ob, hp, hd⟩, q1⟩ => ?_)
  subst ex
  obtain rfl : v = .ref p := r1
  obtain ⟨hg, hz, its, rv, o', ho', hc', _⟩ := I1.hok p _ hp
  have eo : o' = ob := by
    rw [hg] at ho'
    exact (Option.some.inj ho').symm
  subst eo
  refine ⟨"tuple", id, pa, slot, hty, ⟨o', ho', hc'⟩, fun a e => ?_, ?_⟩
  · cases e
    exact ⟨o', ho', hd⟩
  have hA := ha.run cpos pins s1 σ H1 _ I1 q1
  rw [hs] at hA ⊢
  refine Calls.callWith_builtin (by show (false || (backTo cpos (starEach es X.env)).any (·.1)) = false; rw [hplain] <;> rfl) (Calls.evalArgs_plain ?_)
  exact thn hA fun us s2 ⟨vs, H2, I2, r2, q2⟩ => hm pins s2 σ H2 (.ref p) vs _ us Q I2 rfl r2 q2
end
end Wd

set_option Elab.async false
set_option linter.all false
set_option maxRecDepth 100000
set_option maxHeartbeats 4000000
/-! Stands as plain data. -/
namespace Wd
open PySem PySem.Spec PyProof.Rows L2
structure StandH (x : HallH) (t : Nat) (rs ps : List Str) : Prop where
  t : t < x.walkers.length
  rl : rs.length = x.walkers.length
  rin : ∀ r ∈ rs, r ∈ x.rooms
  pl : ps.length = x.stones.length
  pin : ∀ q ∈ ps, q ∈ x.rooms ∨ q ∈ x.walkers.map WalkH.name
  cnt : ∀ z ∈ x.walkers, (ps.count z.name : Int) ≤ z.hands
def standD (t : Nat) (rs ps : List Str) : PyData := .tuple [.int t, .tuple (rs.map PyData.str), .tuple (ps.map PyData.str)]
def StandAt (K : PySem.W.Frag) (H : Hp) (v : V) (t : Nat) (rs ps : List Str) : Prop := ∃ s tr tp : Addr, v = .ref s ∧ SqT K H s [.int t, .ref tr, .ref tp] ∧ SqT K H tr (rs.map V.str) ∧ FT H tp (ps.map V.str)
section
variable {K : PySem.W.Frag} {H H' : Hp} {v : V} {t : Nat} {rs ps : List Str}
theorem StandAt.move (s : ∀ a xs, SqT K H a xs → SqT K H' a xs) (f : ∀ a xs, FT H a xs → FT H' a xs) (h : StandAt K H v t rs ps) : StandAt K H' v t rs ps := by
  obtain ⟨a, b, c, e, h1, h2, h3⟩ := h
  exact ⟨a, b, c, e, s _ _ h1, s _ _ h2, f _ _ h3⟩
theorem StandAt.dq (h : StandAt K H v t rs ps) : Dq anyA K H v (standD t rs ps) := by
  obtain ⟨a, b, c, rfl, h1, h2, h3⟩ := h
  exact .tup trivial h1 (.cons (.int _) (.cons (.tup trivial h2 (DqAll.strs rs)) (.cons (.tup trivial h3.sqT (DqAll.strs ps)) .nil)))
theorem same_sqT (s : Same H H') {a : Addr} {xs : List V} (h : SqT K H a xs) : SqT K H' a xs := sqT_at (fun o => s _ o) h
theorem StandAt.same (s : Same H H') (h : StandAt K H v t rs ps) : StandAt K H' v t rs ps := h.move (fun a xs e => same_sqT s e) fun a xs e => e.same s
theorem sqT_frz {l a : Addr} {kvs : List (Key × V)} {xs : List V} {u : _} {o : HO} (e : H l = some (.frz u (.dK kvs))) (h : SqT K H a xs) : SqT K (upd H l o) a xs := by
  rcases h with (h | ⟨u, h⟩) | h
  · exact .inl (.inl (by rw [upd_ne (fun z => by rw [z, e] at h; cases h)]; exact h))
  · exact .inl (.inr ⟨u, by rw [upd_ne (fun z => by rw [z, e] at h; cases h)]; exact h⟩)
  · exact .inr h
theorem sqT_dK {l a : Addr} {kvs : List (Key × V)} {xs : List V} {o : HO} (e : H l = some (.dK kvs)) (h : SqT K H a xs) : SqT K (upd H l o) a xs := by
  rcases h with (h | ⟨u, h⟩) | h
  · exact .inl (.inl (by rw [upd_ne (fun z => by rw [z, e] at h; cases h)]; exact h))
  · exact .inl (.inr ⟨u, by rw [upd_ne (fun z => by rw [z, e] at h; cases h)]; exact h⟩)
  · exact .inr h
theorem sqL_dK {l a : Addr} {kvs : List (Key × V)} {xs : List V} {o : HO} (e : H l = some (.dK kvs)) (h : SqL K H a xs) : SqL K (upd H l o) a xs := by
  rcases h with (h | ⟨u, h⟩) | h
  · exact .inl (.inl (by rw [upd_ne (fun z => by rw [z, e] at h; cases h)]; exact h))
  · exact .inl (.inr ⟨u, by rw [upd_ne (fun z => by rw [z, e] at h; cases h)]; exact h⟩)
  · exact .inr h
theorem sqL_frz {l a : Addr} {kvs : List (Key × V)} {xs : List V} {u : _} {o : HO} (e : H l = some (.frz u (.dK kvs))) (h : SqL K H a xs) : SqL K (upd H l o) a xs := by
  rcases h with (h | ⟨u, h⟩) | h
  · exact .inl (.inl (by rw [upd_ne (fun z => by rw [z, e] at h; cases h)]; exact h))
  · exact .inl (.inr ⟨u, by rw [upd_ne (fun z => by rw [z, e] at h; cases h)]; exact h⟩)
  · exact .inr h
end
end Wd

set_option Elab.async false
set_option linter.all false
set_option maxRecDepth 100000
set_option maxHeartbeats 4000000
/-! name = {..} on one line, the name a local. -/
namespace Wd
open PySem PySem.Spec PyProof.Rows L2
section
variable {X : Cx}
theorem ps_setDc {i : Nat} {y : Str} {py : Pos} {kx vx tg iter : Expr} {ifs : List Expr} {scope : Scope} {own : List (Str × Nat)} {pos spos : Pos} {wi : TI} {g : TG} {tt : TT} {tk tv : TE} (hc : X.calm = true) (hN : X.N.Nodup) (hy : X.N[i]? = some y) (hyl : X.env.scope.names.lookup y = some .local)
    (hsw : swapsWith (.DictComp kx vx [⟨tg, iter, ifs, 0⟩] scope pos) (some (.Name y py)) spos.line X.env = pure true) (hi : PI X tg iter wi) (ok : BlkOk X.N X.env.scope scope own)
    (hg : ∀ (s : Shared) (H : Hp) (C : Addr) (cl : List (Str × Addr)) (fp : List Addr), PG (X.blk s H scope (compEnvC scope cl C X.env) fp) tg g) (ht : ∀ (s : Shared) (H : Hp) (C : Addr) (cl : List (Str × Addr)) (fp : List Addr), PTs (X.blk s H scope (compEnvC scope cl C X.env) fp) ifs tt)
    (hk : ∀ (s : Shared) (H : Hp) (C : Addr) (cl : List (Str × Addr)) (fp : List Addr), PE (X.blk s H scope (compEnvC scope cl C X.env) fp) kx tk)
    (he : ∀ (s : Shared) (H : Hp) (C : Addr) (cl : List (Str × Addr)) (fp : List Addr), PE (X.blk s H scope (compEnvC scope cl C X.env) fp) vx tv) (hs : ∀ x, foldedSetIterable iter X.env x = pure x := by intro _; rfl) :
    PS X (.Assign [.Name y py] (.DictComp kx vx [⟨tg, iter, ifs, 0⟩] scope pos) spos) (tAsg (tDc wi g tt tk tv (own.map (·.2))) (gName i)) := by
  refine ⟨fun pins s σ H D I h => ?_⟩
  rw [exec_Assign_Name_used _ _ _ _ hsw]
  refine wpAny_bind (wpAny_standAt (wpAny_bind ?_))
  show wpAny _ X.A (do let _ ← comprehension (.DictComp kx vx [⟨tg, iter, ifs, 0⟩] scope pos) scope X.env (firstIterPos [⟨tg, iter, ifs, 0⟩] pos) newDict false (eval iter X.env) (some (assign (.Name y py) X.env))) _ _ s
  have h : tDc wi g tt tk tv (own.map (·.2)) σ H (fun x H1 => gName i x σ H1 D.nx) := h
  refine wpAny_bind (thn (dc_core (Qf := fun _ s' => SP X pins D .next s') hc hN I hi ok hg ht hk he hs h fun L C s' m H' I' q hn f => ?_) fun _ s' hq => wpAny_pure (wpAny_pure hq))
  show wpAny _ _ (assign (.Name y py) X.env (.ref L)) _ _ _
  refine wpAny_assign_Name (store_ok2 (v := V.ref L) I' hN hy (.inl hyl) rfl (fun s2 I2 ⟨a, sb, ha⟩ => ?_) (.inr hyl))
  obtain ⟨f0, f1, f2, f3, f4, f5⟩ := f
  have haC : C ≠ a := by
    rcases ha with z | z
    · rw [z]; exact f1
    · exact fun e => f4 y a z e.symm
  refine ⟨m, hn.sameBut sb haC, fun h3 sb3 => ?_⟩
  exact ⟨_, H', I2.turned (t' := s2.toks) (fun b o hb e => (sb3.2 b hb).trans e) f0 f1 f3 f4 f5, q⟩
theorem sw_trueD {kx vx : Expr} {gs : List Comprehension} {scope : Scope} {pos py : Pos} {y : Str} {l : Nat} {env : Env} (hk : env.scope.kind = .function) (hy : env.scope.names.lookup y = some .local) (hl : (py.line == pos.line) = true)
    (ha : (scope.names.any fun (n, k) => n == y && (k == .local || k == .cell)) = false) : swapsWith (.DictComp kx vx gs scope pos) (some (.Name y py)) l env = pure true := by
  have ky : env.kindOf y = some .local := hy
  have hb : env.blockKind = .function := by unfold Env.blockKind; rw [hk]; rfl
  unfold swapsWith
  simp only [hb, ky, ha, Expr.pos, hl]
  rfl
end
end Wd

set_option Elab.async false
set_option linter.all false
set_option maxRecDepth 100000
set_option maxHeartbeats 4000000
/-! zip of a list and a tuple; dict(zip(..)) of them. -/
namespace Wd
open PySem PySem.Spec PyProof.Rows L2 RZ Builtin
theorem draws_tup {prog : Program} {w : World} {A : Around} (hA : A.handled = none) (it l : Addr) (ne : l ≠ it) (ys : Array Value) :
    Draws prog w A it [it, l] ys.size (fun i v => ys[i]? = some v) (fun i h => h.IsTupleIter it l i ∧ h.IsTuple l ys) where
  live := fun _ _ q => let ⟨o, e, _⟩ := q.1; ⟨o, e⟩
  frame := fun _ _ _ q k => ⟨q.1.at fun o e => k it (by simp) o e, q.2.at fun o e => k l (by simp) o e⟩
  item := fun i z R F hi q g => by
    refine nextOf_tuple_item q.1 q.2 (x := ys[i]) (by simp [hi]) fun g1 t1 b1 => ?_
    exact g _ g1 z.toks (by simp [hi]) ⟨t1, q.2.extBut b1.extBut ne⟩ b1
  done := fun z R F q g => nextOf_tuple_end hA q.1 q.2 (by simp) fun h1 e b x => g h1 e b x
abbrev mz1 (h : Heap) (a : Addr) : Heap := h.push { cls := .type "list_iterator", data := .fields #[.ref a, .int 0 0] }
abbrev mz2 (h : Heap) (a b : Addr) : Heap := (mz1 h a).push { cls := .type "tuple_iterator", data := .fields #[.ref b, .int 0 0] }
abbrev mz3 (h : Heap) (a b : Addr) : Heap := (mz2 h a b).push { cls := .type "tuple", data := .seq #[.ref h.objs.size, .ref (mz1 h a).objs.size] }
abbrev mz4 (h : Heap) (a b : Addr) : Heap := (mz3 h a b).push { cls := .type "tuple", data := .seq #[.none, .none] }
abbrev mz5 (h : Heap) (a b : Addr) : Heap := (mz4 h a b).push { cls := .type "zip", data := .fields #[.none, .bool false, .bool false, .ref (mz2 h a b).objs.size, .ref (mz3 h a b).objs.size] }
theorem meets_mz (a b : Addr) (xs ys : Array Value) :
    Meets (Builtin.«zip.__new__» ⟨[.type "zip", .ref a, .ref b], []⟩) (fun _ R z => z.heap.IsList a xs ∧ z.heap.IsTuple b ys ∧
      R (.ok (.ret (.ref (mz4 z.heap a b).objs.size))) { z with heap := mz5 z.heap a b }) :=
  .of_wp fun prog w A R z h => by
    obtain ⟨g0, gn, df, tk, os⟩ := z; obtain ⟨la, tb, h⟩ := h
    have hsub := sub_zip
    have la' : Heap.IsList (Shared.heap ⟨g0, gn, df, tk, os⟩) a xs := la
    have tb' : Heap.IsTuple (Shared.heap ⟨g0.push { cls := .type "list_iterator", data := .fields #[.ref a, .int 0 0] }, gn, df, tk, os⟩) b ys := Heap.IsTuple.push tb _
    wp_walk using wpAny_pyIter_list la', wpAny_pyIter_tuple tb'
    exact ⟨_, rfl, h⟩
section
variable {prog : Program} {w : World} {A : Around} {E : Value → Shared → Prop} {z0 : Shared}
theorem call_mz {a b : Addr} {xs ys : Array Value} {Q : Value → Shared → Prop} (la : z0.heap.IsList a xs) (tb : z0.heap.IsTuple b ys)
    (q : ∀ h', IsZip h' (z0.heap.objs.size + 4) (z0.heap.objs.size + 2) (z0.heap.objs.size + 3) .none → IsPair h' (z0.heap.objs.size + 2) (.ref z0.heap.objs.size) (.ref (z0.heap.objs.size + 1)) →
      IsPair h' (z0.heap.objs.size + 3) .none .none → h'.IsListIter z0.heap.objs.size a 0 → h'.IsTupleIter (z0.heap.objs.size + 1) b 0 → h'.objs.size = z0.heap.objs.size + 5 →
      (∀ c o, z0.heap.get? c = some o → h'.get? c = some o) → Q (.ref (z0.heap.objs.size + 4)) { z0 with heap := h' }) :
    wpAny (model prog w) A (call (.type "zip") [.ref a, .ref b]) Q E z0 := by
  refine callType_new F.called_zip (by decide) (F.typeCall_zip_2 _ _) (F.newCall_zip_2 _ _) (fun obj => F.args_object_init_3 obj _ _) F.entry_zip_new (meets_mz a b xs ys) ⟨la, tb, ?_⟩
  have n1 : (mz1 z0.heap a).objs.size = z0.heap.objs.size + 1 := Heap.size_push ..
  have n2 : (mz2 z0.heap a b).objs.size = z0.heap.objs.size + 2 := by rw [Heap.size_push, n1]
  have n3 : (mz3 z0.heap a b).objs.size = z0.heap.objs.size + 3 := by rw [Heap.size_push, n2]
  have n4 : (mz4 z0.heap a b).objs.size = z0.heap.objs.size + 4 := by rw [Heap.size_push, n3]
  have n5 : (mz5 z0.heap a b).objs.size = z0.heap.objs.size + 5 := by rw [Heap.size_push, n4]
  have e5 : (mz5 z0.heap a b).get? (mz4 z0.heap a b).objs.size = some _ := Heap.get?_push_size _ rfl
  have e4 : (mz5 z0.heap a b).get? (mz3 z0.heap a b).objs.size = some _ := Heap.get?_push_of_some _ (Heap.get?_push_size _ rfl)
  have e3 : (mz5 z0.heap a b).get? (mz2 z0.heap a b).objs.size = some _ := Heap.get?_push_of_some _ (Heap.get?_push_of_some _ (Heap.get?_push_size _ rfl))
  have e2 : (mz5 z0.heap a b).get? (mz1 z0.heap a).objs.size = some _ := Heap.get?_push_of_some _ (Heap.get?_push_of_some _ (Heap.get?_push_of_some _ (Heap.get?_push_size _ rfl)))
  have e1 : (mz5 z0.heap a b).get? z0.heap.objs.size = some _ := Heap.get?_push_of_some _ (Heap.get?_push_of_some _ (Heap.get?_push_of_some _ (Heap.get?_push_of_some _ (Heap.get?_push_size _ rfl))))
  show _ ∧ _
  rw [n2, n3, n4] at e5
  rw [n1, n2] at e3
  rw [n3] at e4
  rw [n1] at e2
  rw [n4]
  refine ⟨⟨_, e5, rfl⟩, q _ e5 e3 e4 ⟨_, e1, rfl, rfl⟩ ⟨_, e2, rfl, rfl⟩ n5 fun c o x => ?_⟩
  exact Heap.get?_push_of_some _ (Heap.get?_push_of_some _ (Heap.get?_push_of_some _ (Heap.get?_push_of_some _ (Heap.get?_push_of_some _ x))))
end
theorem sep_of {z TI TO i1 i2 a b : Addr} (D : ZipApart z TI TO i1 i2 a b) : ZipSep2 z TI TO i1 i2 [i1, a] [i2, b] := by
  obtain ⟨d1, d2, d3, d4, d5, d6, d7, d8, d9, d10, d11, d12, d13, d14, d15, d16, d17, d18⟩ := D
  refine ⟨d1, d2, d5, d6, by simp, ?_, ?_, d7, by simp, ?_, ?_, ?_, ?_⟩ <;> simp only [List.mem_cons, List.not_mem_nil, or_false, not_or]
  · exact ⟨d3.symm, d11.symm⟩
  · exact ⟨d8, d12.symm⟩
  · exact ⟨d4.symm, d15.symm⟩
  · exact ⟨d9, d16.symm⟩
  · exact ⟨d10, d17.symm⟩
  · exact ⟨d10.symm, d14.symm⟩
/-- the list at a and the tuple at b as they stand at each turn, the items in new pairs -/
def ItzM (K : PySem.W.Frag) (a b : Addr) : It :=
  ⟨fun i H => ∃ (xs ys : List V) (x y : V), SqL K H a xs ∧ SqT K H b ys ∧ xs[i]? = some x ∧ ys[i]? = some y,
    fun i H v H' => ∃ T x y, v = .ref T ∧ H T = none ∧ H' = upd H T (.tup [x, y]) ∧ (∀ xs, SqL K H a xs → xs[i]? = some x) ∧ ∀ ys, SqT K H b ys → ys[i]? = some y,
    fun i H => ∃ xs ys : List V, SqL K H a xs ∧ SqT K H b ys ∧ ((xs.length = i ∧ i ≤ ys.length) ∨ (ys.length = i ∧ i ≤ xs.length))⟩
theorem turn_mz {P : Program} {w : World} {K : PySem.W.Frag} {elts : List Expr} {kk : Nat} {tpos : Pos} {a b z TI TO i1 i2 : Addr} (D : ZipApart z TI TO i1 i2 a b) :
    Turn P w K (.Tuple elts kk tpos) (ItzM K a b) [z, TI, TO, i1, i2] z (fun i h => IsZip h z TI TO .none ∧ IsPair h TI (.ref i1) (.ref i2) ∧ (∃ x y, IsPair h TO x y) ∧ h.IsListIter i1 a i ∧ h.IsTupleIter i2 b i) where
  mem := by simp
  obj := fun i h q c hc => by
    obtain ⟨q1, q2, ⟨x, y, q3⟩, ⟨o1, e1, _, d1⟩, ⟨o2, e2, _, d2⟩⟩ := q
    simp only [List.mem_cons, List.not_mem_nil, or_false] at hc
    rcases hc with rfl | rfl | rfl | rfl | rfl
    · exact ⟨_, q1, fun v t => nomatch t⟩
    · exact ⟨_, q2, fun v t => nomatch t⟩
    · exact ⟨_, q3, fun v t => nomatch t⟩
    · exact ⟨o1, e1, fun v t => by rw [d1] at t; cases t⟩
    · exact ⟨o2, e2, fun v t => by rw [d2] at t; cases t⟩
  keep := fun i h h' q k => by
    obtain ⟨q1, q2, ⟨x, y, q3⟩, q4, q5⟩ := q
    exact ⟨k z (by simp) _ q1, k TI (by simp) _ q2, ⟨x, y, k TO (by simp) _ q3⟩, q4.at fun o t => k i1 (by simp) o t, q5.at fun o t => k i2 (by simp) o t⟩
  item := by
    intro X hP hw hK hc i pins s0 σ H E I hf q hg
    subst hP hw hK
    obtain ⟨q1, q2, ⟨x0, y0, q3⟩, q4, q5⟩ := q
    obtain ⟨xs, ys, x, y, hqx, hqy, hx, hy⟩ := hg
    obtain ⟨us, rv, p, _⟩ := I.list hqx
    obtain ⟨vs, rv2, p2, _⟩ := I.tuple hqy
    obtain ⟨u, hu, ru⟩ := rv.get hx
    obtain ⟨v, hv, rv'⟩ := rv2.get hy
    have zl : z < s0.heap.objs.size := Heap.lt_size q1
    have hA : X.A.in1.handled = none := I.ok.hd hc
    refine wpAny_pyNext_zipD2_item (sep_of D) (Draws.list hA i1 a D.l1i1 us.toArray) (draws_tup hA i2 b D.l2i2 vs.toArray) q1 q2 q3 ⟨q4, p.isList⟩ ⟨q5, p2⟩ (by
      have := (List.getElem?_eq_some_iff.mp hu).1; simpa using this) (by
      have := (List.getElem?_eq_some_iff.mp hv).1; simpa using this) fun x1 x2 h1 tk g1 g2 g3 g4 g5 g6 g7 g8 hk => ?_
    have e1 : x1 = u := by
      have t : us[i]? = some x1 := by simpa using g1
      rw [hu] at t
      exact (Option.some.inj t).symm
    have e2 : x2 = v := by
      have t : vs[i]? = some x2 := by simpa using g2
      rw [hv] at t
      exact (Option.some.inj t).symm
    subst e1 e2
    refine ⟨_, rfl, wpAny_letOwnedTupleGo_zip (s := { s0 with heap := h1, toks := tk }) g3 fun h2 z2 sb => ?_⟩
    have t2 : h2.get? s0.heap.objs.size = some { cls := .type "tuple", data := .seq #[x1, x2] } := (sb.2 _ (Nat.ne_of_gt zl)).trans g7
    have new : ObjOk X.prog X.w (upd H s0.heap.objs.size (.tup [x, y])) h2 s0.heap.objs.size (.tup [x, y]) :=
      ⟨by show 2 ≤ sizeLine; decide, [x1, x2], .cons ru (.cons rv' .nil), ⟨_, t2, rfl, _, rfl⟩⟩
    have I1 : Inv X pins σ (upd H s0.heap.objs.size (.tup [x, y])) { s0 with heap := h2, toks := tk } :=
      I.turnedNew (t' := tk) (ch := [z, TI, TO, i1, i2]) (fun c o hb t => (sb.2 c (fun t' => hb (by simp [t']))).trans (hk c o (fun t' => hb (by simp [t'])) (fun t' => hb (by simp [t'])) (fun t' => hb (by simp [t'])) (fun t' => hb (by simp [t'])) t)) hf (Nat.le_refl _) new
    refine ⟨.ref s0.heap.objs.size, _, I1, rfl, ⟨_, x, y, rfl, I.hok.fresh (Nat.le_refl _), rfl, fun l hl => by rw [I.list_inj hl hqx]; exact hx, fun l hl => by rw [I.tuple_inj hl hqy]; exact hy⟩, ⟨z2, ?_, ⟨x1, x2, ?_⟩, ?_, ?_⟩, fun c hcm => ?_⟩
    · exact (sb.2 _ D.TIz).trans (hk _ _ D.TIz D.TITO D.TIi1 D.TIi2 q2)
    · exact (sb.2 _ D.TOz).trans g4
    · exact g5.1.at fun o t => (sb.2 _ D.i1z).trans t
    · exact g6.1.at fun o t => (sb.2 _ D.i2z).trans t
    · have hlt : c < s0.heap.objs.size := by
        simp only [List.mem_cons, List.not_mem_nil, or_false] at hcm
        rcases hcm with rfl | rfl | rfl | rfl | rfl
        · exact zl
        · exact Heap.lt_size q2
        · exact Heap.lt_size q3
        · obtain ⟨_, t, _⟩ := q4; exact Heap.lt_size t
        · obtain ⟨_, t, _⟩ := q5; exact Heap.lt_size t
      rw [upd_ne (Nat.ne_of_lt hlt)]
      exact (hf c hcm).1
  done := by
    intro X hP hw hK hc i pins s0 σ H E I hf q hg
    subst hP hw hK
    obtain ⟨q1, q2, ⟨x0, y0, q3⟩, q4, q5⟩ := q
    obtain ⟨xs, ys, hqx, hqy, hend⟩ := hg
    obtain ⟨us, rv, p, _⟩ := I.list hqx
    obtain ⟨vs, rv2, p2, _⟩ := I.tuple hqy
    have l1 := rv.length
    have l2 := rv2.length
    have hA : X.A.in1.handled = none := I.ok.hd hc
    refine wpAny_pyNext_zipD2_end (i := i) (sep_of D) (Draws.list hA i1 a D.l1i1 us.toArray) (draws_tup hA i2 b D.l2i2 vs.toArray) q1 q2 q3 ⟨q4, p.isList⟩ ⟨q5, p2⟩ ?_ ?_ ?_ fun h1 tk hk => ⟨rfl, ?_⟩
    · simp only [List.size_toArray]; omega
    · simp only [List.size_toArray]; omega
    · simp only [List.size_toArray]; omega
    · exact I.turnedL (t' := tk) (ch := [z, TI, TO, i1, i2]) (fun c o hb t => hk c o (fun t' => hb (by simp [t'])) (fun t' => hb (by simp [t'])) (fun t' => hb (by simp [t'])) (fun t' => hb (by simp [t'])) t) hf
  self := fun A i s0 Q E q h => wpAny_pyIter_zip q.1 h
def iZipM (K : PySem.W.Frag) (ta : TA) : TI := fun σ H R => ta σ H fun vs H1 => ∃ a b xs ys, vs = [.ref a, .ref b] ∧ SqL K H1 a xs ∧ SqT K H1 b ys ∧ R (ItzM K a b) H1
theorem pi_zipM {X : Cx} {K : PySem.W.Frag} {e e2 : Expr} {ta : TA} {p pos tpos : Pos} {elts : List Expr} {kk : Nat} (hg : Gl X "zip") (hm : X.mg "zip" = none) (ha : PA X [e, e2] ta) (hK : X.K = K := by rfl)
    (h1 : starEach [e, e2] X.env = (false, eval e X.env) :: starEach [e2] X.env := by rfl) (h2 : (backTo pos (starEach [e2] X.env)).any (·.1) = false := by rfl) :
    PI X (.Tuple elts kk tpos) (.Call (.Name "zip" p) [e, e2] [] pos) (iZipM K ta) := by
  subst hK
  refine ⟨fun pins z0 σ H R I h => ?_⟩
  refine Call_ (ld_blt I hg hm PyProof.Rows.boot_zip (PyProof.Rows.callWith_type1 (thn (ha.run pos pins z0 σ H _ I h) fun us z1 ⟨vs, H1, I1, r1, q1⟩ => ?_) h1 h2))
  obtain ⟨a, b, xs, ys, rfl, hqx, hqy, q⟩ := q1
  obtain ⟨u1, u2, rfl, r1', r2'⟩ := vals2 r1
  cases r1'
  cases r2'
  obtain ⟨its, rv, p1, _⟩ := I1.list hqx
  obtain ⟨its2, rv2, p2, _⟩ := I1.tuple hqy
  obtain ⟨o2, ho2, _⟩ := id p2
  refine call_mz p1.isList (show z1.heap.IsTuple b its2.toArray from p2) fun h' g1 g2 g3 g4 g5 g6 hk => wpAny_pyIter_zip g1 ?_
  have I2 : Inv X pins σ H1 { z1 with heap := h' } := I1.kept (t' := z1.toks) hk
  refine ⟨z1.heap.objs.size + 4, [z1.heap.objs.size + 4, z1.heap.objs.size + 2, z1.heap.objs.size + 3, z1.heap.objs.size, z1.heap.objs.size + 1], _, _, H1, rfl, I2, turn_mz (PySem.W.ktu_apart z1.heap.objs.size a b p1.lt (Heap.lt_size ho2)), ⟨g1, g2, ⟨_, _, g3⟩, g4, g5⟩, fun c hc => ?_, q⟩
  have hle : z1.heap.objs.size ≤ c := by
    simp only [List.mem_cons, List.not_mem_nil, or_false] at hc
    rcases hc with rfl | rfl | rfl | rfl | rfl
    · exact Nat.le_add_right _ _
    · exact Nat.le_add_right _ _
    · exact Nat.le_add_right _ _
    · exact Nat.le_refl _
    · exact Nat.le_add_right _ _
  exact I1.fpOk hle (I1.hok.fresh hle)
theorem walk_mz {K : PySem.W.Frag} {a b : Addr} {xs ys : List V} (hl : xs.length = ys.length) : Walk (ItzM K a b) xs.length (fun H => SqL K H a xs ∧ SqT K H b ys) (YPair (fun i => xs[i]?) (fun i => ys[i]?)) := by
  refine ⟨fun i _ hi q => ?_, fun _ q => ⟨xs, ys, q.1, q.2, .inl ⟨rfl, by omega⟩⟩, fun i H v H' _ q y => ?_⟩
  · have h2 : i < ys.length := by omega
    exact ⟨xs, ys, xs[i], ys[i], q.1, q.2, by simp [hi], by simp [h2]⟩
  · obtain ⟨T, x, y', h1, h2, h3, h4, h5⟩ := y
    exact ⟨T, x, y', h1, h2, h3, h4 _ q.1, h5 _ q.2⟩
end Wd

set_option Elab.async false
set_option linter.all false
set_option maxRecDepth 100000
set_option maxHeartbeats 4000000
/-! dict(zip(a list, a tuple)). -/
namespace Wd
open PySem PySem.Spec PyProof.Rows L2 RZ Builtin
section
variable {prog : Program} {w : World} {A : Around} {E : Value → Shared → Prop} {z0 : Shared} {z TI TO T i1 i2 : Addr} {fp1 fp2 : List Addr} {f : Bool} {oT : Obj} {n1 n2 i : Nat} {P1 P2 : Nat → Value → Prop} {St1 St2 : Nat → Heap → Prop}
/-- the next pair, while the one ahead is still held -/
theorem held_item {Q : Value → Shared → Prop} (S : ZipSep2 z TI TO i1 i2 fp1 fp2) (D1 : Draws prog w A i1 fp1 n1 P1 St1) (D2 : Draws prog w A i2 fp2 n2 P2 St2)
    (hz : IsZipHeld z0.heap z TI TO T f) (hT : z0.heap.get? T = some oT) (hTI : IsPair z0.heap TI (.ref i1) (.ref i2)) (q1 : St1 i z0.heap) (q2 : St2 i z0.heap) (lt1 : i < n1) (lt2 : i < n2)
    (q : ∀ x1 x2 h' tk, P1 i x1 → P2 i x2 → IsZipHeld h' z TI TO T true → St1 (i + 1) h' → St2 (i + 1) h' → IsPair h' z0.heap.objs.size x1 x2 → h'.objs.size = z0.heap.objs.size + 1 →
      (∀ c o, c ≠ z → c ≠ i1 → c ≠ i2 → z0.heap.get? c = some o → h'.get? c = some o) → Q (.ref z0.heap.objs.size) { z0 with heap := h', toks := tk }) :
    wpAny (model prog w) A (Builtin.«zip.__next__» ⟨[.ref z], []⟩) (fun fin z1 => ∃ v, fin = .done (.ret v) ∧ Q v z1) E z0 := by
  obtain ⟨hp, gn, df, tk0, os⟩ := z0
  show wpAny _ _ (field (.ref z) 2 >>= _) _ _ _
  refine wpAny_bind (wpAny_field hz rfl (x := Value.bool false) rfl ?_)
  show wpAny _ _ (field (.ref z) 3 >>= _) _ _ _
  refine wpAny_bind (wpAny_field hz rfl (x := Value.ref TI) rfl ?_)
  refine wpAny_bind (wpAny_seqItems hTI rfl ?_)
  show wpAny _ _ (SmallTypes.ownedTupleIsFree (.ref z) >>= _) _ _ _
  refine wpAny_bind (wpAny_tupleHeld_zip hz hT fun k1 hz1 b1 => ?_)
  replace b1 : Heap.SameBut z hp k1 := b1
  simp only [Bool.false_eq_true, if_false]
  refine wpAny_bind ?_
  rw [← Array.forIn_toList]
  simp only [List.forIn_cons, List.forIn_nil]
  refine wpAny_bind (wpAny_bind (wpAny_holding ?_))
  show wpAny _ _ (SmallTypes.nextOf (.ref i1) >>= _) _ _ _
  refine wpAny_bind (D1.item i ⟨k1, gn, df, tk0, os⟩ _ _ lt1 (D1.over q1 b1 S.zf1) fun x1 k2 t2 p1 q1' b2 => wpAny_pure (wpAny_pure ?_))
  replace b2 : Heap.SameBut i1 k1 k2 := b2
  refine wpAny_bind (wpAny_bind (wpAny_holding ?_))
  show wpAny _ _ (SmallTypes.nextOf (.ref i2) >>= _) _ _ _
  refine wpAny_bind (D2.item i ⟨k2, gn, df, t2, os⟩ _ _ lt2 (D2.over (D2.over q2 b1 S.zf2) b2 S.sep1_2) fun x2 k3 t3 p2 q2' b3 => wpAny_pure (wpAny_pure (wpAny_pure ?_)))
  replace b3 : Heap.SameBut i2 k2 k3 := b3
  show wpAny _ _ (newTuple [x1, x2] >>= _) _ _ ⟨k3, gn, df, t3, os⟩
  refine wpAny_bind (wpAny_newTuple ?_)
  have sz : k3.objs.size = hp.objs.size := by rw [b3.1, b2.1, b1.1]
  have hz3 : IsZipHeld k3 z TI TO T true := b3.extBut _ _ S.zi2 (b2.extBut _ _ S.zi1 hz1)
  have up : ∀ c o, c ≠ z → c ≠ i1 → c ≠ i2 → hp.get? c = some o → k3.get? c = some o := fun c o c1 c2 c3 e => b3.extBut _ _ c3 (b2.extBut _ _ c2 (b1.extBut _ _ c1 e))
  have q13 : St1 (i + 1) k3 := D1.over q1' b3 S.sep2_1
  refine wpAny_pure ⟨_, rfl, ?_⟩
  show Q (.ref k3.objs.size) _
  have hp4 : IsPair (k3.push { cls := .type "tuple", data := .seq #[x1, x2] }) k3.objs.size x1 x2 := Heap.get?_push_size _ rfl
  have sz4 : (k3.push { cls := .type "tuple", data := .seq #[x1, x2] }).objs.size = k3.objs.size + 1 := Heap.size_push ..
  have k4 : ∀ c o, k3.get? c = some o → (k3.push { cls := .type "tuple", data := .seq #[x1, x2] }).get? c = some o := fun c o e => Heap.get?_push_of_some _ e
  rw [sz] at hp4 sz4 ⊢
  exact q x1 x2 _ t3 p1 p2 (k4 _ _ hz3) (D1.frame _ _ _ q13 fun b _ o e => k4 _ _ e) (D2.frame _ _ _ q2' fun b _ o e => k4 _ _ e) hp4 sz4 fun c o c1 c2 c3 e => k4 _ _ (up c o c1 c2 c3 e)
theorem held_end {Q : Fin → Shared → Prop} (S : ZipSep2 z TI TO i1 i2 fp1 fp2) (D1 : Draws prog w A i1 fp1 n1 P1 St1) (D2 : Draws prog w A i2 fp2 n2 P2 St2)
    (hz : IsZipHeld z0.heap z TI TO T f) (hT : z0.heap.get? T = some oT) (hTI : IsPair z0.heap TI (.ref i1) (.ref i2)) (q1 : St1 i z0.heap) (q2 : St2 i z0.heap) (le1 : i ≤ n1) (le2 : i ≤ n2) (hend : i = n1 ∨ i = n2)
    (g : ∀ h' tk e, (∀ c o, c ≠ z → c ≠ i1 → c ≠ i2 → z0.heap.get? c = some o → h'.get? c = some o) → (∃ o, h'.get? e = some o ∧ o.cls = .type "StopIteration") → E (.ref e) { z0 with heap := h', toks := tk }) :
    wpAny (model prog w) A (Builtin.«zip.__next__» ⟨[.ref z], []⟩) Q E z0 := by
  obtain ⟨hp, gn, df, tk0, os⟩ := z0
  show wpAny _ _ (field (.ref z) 2 >>= _) _ _ _
  refine wpAny_bind (wpAny_field hz rfl (x := Value.bool false) rfl ?_)
  show wpAny _ _ (field (.ref z) 3 >>= _) _ _ _
  refine wpAny_bind (wpAny_field hz rfl (x := Value.ref TI) rfl ?_)
  refine wpAny_bind (wpAny_seqItems hTI rfl ?_)
  show wpAny _ _ (SmallTypes.ownedTupleIsFree (.ref z) >>= _) _ _ _
  refine wpAny_bind (wpAny_tupleHeld_zip hz hT fun k1 hz1 b1 => ?_)
  replace b1 : Heap.SameBut z hp k1 := b1
  simp only [Bool.false_eq_true, if_false]
  refine wpAny_bind ?_
  rw [← Array.forIn_toList]
  simp only [List.forIn_cons, List.forIn_nil]
  refine wpAny_bind (wpAny_bind (wpAny_holding ?_))
  show wpAny _ _ (SmallTypes.nextOf (.ref i1) >>= _) _ _ _
  by_cases lt1 : i < n1
  · have e2 : i = n2 := by omega
    refine wpAny_bind (D1.item i ⟨k1, gn, df, tk0, os⟩ _ _ lt1 (D1.over q1 b1 S.zf1) fun x1 k2 t2 p1 q1' b2 => wpAny_pure (wpAny_pure ?_))
    replace b2 : Heap.SameBut i1 k1 k2 := b2
    refine wpAny_bind (wpAny_bind (wpAny_holding ?_))
    show wpAny _ _ (SmallTypes.nextOf (.ref i2) >>= _) _ _ _
    refine wpAny_bind (D2.done ⟨k2, gn, df, t2, os⟩ _ _ (by rw [← e2]; exact D2.over (D2.over q2 b1 S.zf2) b2 S.sep1_2) fun k3 e b3 he => ?_)
    replace b3 : Heap.ExtBut i2 k2 k3 := b3
    exact g k3 t2 e (fun c o c1 c2 c3 t => b3 _ _ c3 (b2.extBut _ _ c2 (b1.extBut _ _ c1 t))) he
  · have e1 : i = n1 := by omega
    refine wpAny_bind (D1.done ⟨k1, gn, df, tk0, os⟩ _ _ (by rw [← e1]; exact D1.over q1 b1 S.zf1) fun k2 e b2 he => ?_)
    replace b2 : Heap.ExtBut i1 k1 k2 := b2
    exact g k2 tk0 e (fun c o c1 c2 _ t => b2 _ _ c2 (b1.extBut _ _ c1 t)) he
theorem next_held_item {Q : Option Value → Shared → Prop} (S : ZipSep2 z TI TO i1 i2 fp1 fp2) (D1 : Draws prog w A.in1 i1 fp1 n1 P1 St1) (D2 : Draws prog w A.in1 i2 fp2 n2 P2 St2)
    (hz : IsZipHeld z0.heap z TI TO T f) (hT : z0.heap.get? T = some oT) (hTI : IsPair z0.heap TI (.ref i1) (.ref i2)) (q1 : St1 i z0.heap) (q2 : St2 i z0.heap) (lt1 : i < n1) (lt2 : i < n2)
    (q : ∀ x1 x2 h' tk, P1 i x1 → P2 i x2 → IsZipHeld h' z TI TO T true → St1 (i + 1) h' → St2 (i + 1) h' → IsPair h' z0.heap.objs.size x1 x2 → h'.objs.size = z0.heap.objs.size + 1 →
      (∀ c o, c ≠ z → c ≠ i1 → c ≠ i2 → z0.heap.get? c = some o → h'.get? c = some o) → Q (some (.ref z0.heap.objs.size)) { z0 with heap := h', toks := tk }) :
    wpAny (model prog w) A (pyNext (.ref z)) Q E z0 := by
  have ty : z0.TypeIs (.ref z) "zip" := ⟨_, hz, rfl⟩
  unfold pyNext
  refine wpAny_bind (wpAny_attempt (wpAny_callSpecial?_slot (name := Str.ofString "__next__") ty F.slot_zip_next (wpAny_call_entry F.slot_zip_next ty F.entry_zip_next ?_ (F.args_zip_next_1 _))))
  exact held_item S D1 D2 hz hT hTI q1 q2 lt1 lt2 fun x1 x2 h' tk p1 p2 a1 a2 a3 a4 a5 a6 => wpAny_pure (q x1 x2 h' tk p1 p2 a1 a2 a3 a4 a5 a6)
theorem next_held_end {Q : Option Value → Shared → Prop} (S : ZipSep2 z TI TO i1 i2 fp1 fp2) (D1 : Draws prog w A.in1 i1 fp1 n1 P1 St1) (D2 : Draws prog w A.in1 i2 fp2 n2 P2 St2)
    (hz : IsZipHeld z0.heap z TI TO T f) (hT : z0.heap.get? T = some oT) (hTI : IsPair z0.heap TI (.ref i1) (.ref i2)) (q1 : St1 i z0.heap) (q2 : St2 i z0.heap) (le1 : i ≤ n1) (le2 : i ≤ n2) (hend : i = n1 ∨ i = n2)
    (q : ∀ h' tk, (∀ c o, c ≠ z → c ≠ i1 → c ≠ i2 → z0.heap.get? c = some o → h'.get? c = some o) → Q none { z0 with heap := h', toks := tk }) :
    wpAny (model prog w) A (pyNext (.ref z)) Q E z0 := by
  have ty : z0.TypeIs (.ref z) "zip" := ⟨_, hz, rfl⟩
  unfold pyNext
  refine wpAny_bind (wpAny_attempt (wpAny_callSpecial?_slot (name := Str.ofString "__next__") ty F.slot_zip_next (wpAny_call_entry F.slot_zip_next ty F.entry_zip_next ?_ (F.args_zip_next_1 _))))
  refine held_end S D1 D2 hz hT hTI q1 q2 le1 le2 hend fun h' tk e hk he => ?_
  obtain ⟨o, ho, hc⟩ := he
  exact wpAny_bind (wpAny_isInstance (T := "StopIteration") (b := true) ⟨o, ho, hc⟩ isSubtype_stop (wpAny_pure (q _ _ hk)))
end
section
variable {prog : Program} {w : World}
theorem pairs_mz (z TI TO i1 i2 a b : Addr) (D : ZipApart z TI TO i1 i2 a b) (xs ys : Array Value) (hl : xs.size = ys.size) :
    PairArg prog w "zip" z [z, TI, TO, i1, i2, a, b] [z, TO, i1, i2] xs.size (fun i k v => xs[i]? = some k ∧ ys[i]? = some v)
      (fun h => IsZip h z TI TO .none ∧ IsPair h TI (.ref i1) (.ref i2) ∧ (∃ c d, IsPair h TO c d) ∧ h.IsListIter i1 a 0 ∧ h.IsTupleIter i2 b 0 ∧ h.IsList a xs ∧ h.IsTuple b ys) where
  type := fun s q => ⟨_, q.1, rfl⟩
  notDict := by decide
  keep := fun h h' q k => by
    obtain ⟨q1, q2, ⟨c, d, q3⟩, q4, q5, q6, q7⟩ := q
    exact ⟨k _ _ q1, k _ _ q2, ⟨c, d, k _ _ q3⟩, q4.at fun o e => k _ o e, q5.at fun o e => k _ o e, q6.at fun o e => k _ o e, q7.at fun o e => k _ o e⟩
  there := fun h q c hc => by
    obtain ⟨q1, q2, ⟨_, _, q3⟩, ⟨o4, q4, _⟩, ⟨o5, q5, _⟩, ⟨o6, q6, _⟩, ⟨o7, q7, _⟩⟩ := q
    simp only [List.mem_cons, List.not_mem_nil, or_false] at hc
    rcases hc with rfl | rfl | rfl | rfl | rfl | rfl | rfl
    · exact ⟨_, q1⟩
    · exact ⟨_, q2⟩
    · exact ⟨_, q3⟩
    · exact ⟨_, q4⟩
    · exact ⟨_, q5⟩
    · exact ⟨_, q6⟩
    · exact ⟨_, q7⟩
  sub := fun c hc => by
    simp only [List.mem_cons, List.not_mem_nil, or_false] at hc ⊢
    rcases hc with rfl | rfl | rfl | rfl <;> simp
  noKeys := fun A s Q E hA q h => PySem.getAttrOr_miss_zip q.1 rfl rfl rfl PySem.zip_no_keys (by decide +kernel) hA h
  iter := fun A s d Q E hA q hd hdf h => by
    obtain ⟨q1, q2, ⟨c0, d0, q3⟩, q4, q5, q6, q7⟩ := q
    simp only [List.mem_cons, List.not_mem_nil, or_false, not_or] at hdf
    obtain ⟨dz, dTI, dTO, di1, di2, da, db⟩ := hdf
    have S := sep_of D
    have hA1 : A.in1.handled = none := hA
    have D1 := Draws.list (prog := prog) (w := w) hA1 i1 a D.l1i1 xs
    have D2 := draws_tup (prog := prog) (w := w) hA1 i2 b D.l2i2 ys
    refine wpAny_pyIter_zip q1 (h z [z, TO, i1, i2] (fun i h => IsPair h TI (.ref i1) (.ref i2) ∧ (h.IsListIter i1 a i ∧ h.IsList a xs) ∧ (h.IsTupleIter i2 b i ∧ h.IsTuple b ys) ∧
      ((IsZip h z TI TO .none ∧ ∃ c d, IsPair h TO c d) ∨ ∃ T f oT, IsZipHeld h z TI TO T f ∧ h.get? T = some oT ∧ T ≠ z ∧ T ≠ i1 ∧ T ≠ i2 ∧ T ≠ d)) s.heap s.toks ?_
      ⟨q2, ⟨q4, q6⟩, ⟨q5, q7⟩, .inl ⟨q1, c0, d0, q3⟩⟩ (fun _ _ e => e) fun b hb => .inl hb)
    refine ⟨fun hm => ?_, fun i g1 g2 q k => ?_, fun i s1 Q1 E1 hi q hds hQ => ?_, fun s1 Q1 E1 q hQ => ?_⟩
    · simp only [List.mem_cons, List.not_mem_nil, or_false] at hm
      rcases hm with e | e | e | e
      · exact dz e
      · exact dTO e
      · exact di1 e
      · exact di2 e
    · obtain ⟨r1, r2, r3, r4⟩ := q
      refine ⟨k _ _ (Ne.symm dTI) r1, ⟨r2.1.at fun o e => k _ o (Ne.symm di1) e, r2.2.at fun o e => k _ o (Ne.symm da) e⟩, ⟨r3.1.at fun o e => k _ o (Ne.symm di2) e, r3.2.at fun o e => k _ o (Ne.symm db) e⟩, ?_⟩
      rcases r4 with ⟨r4, c, d1, r5⟩ | ⟨T, f, oT, r4, r5, t1, t2, t3, t4⟩
      · exact .inl ⟨k _ _ (Ne.symm dz) r4, c, d1, k _ _ (Ne.symm dTO) r5⟩
      · exact .inr ⟨T, f, oT, k _ _ (Ne.symm dz) r4, k _ _ t4 r5, t1, t2, t3, t4⟩
    · obtain ⟨r1, r2, r3, r4⟩ := q
      have lt : ∀ {c o}, s1.heap.get? c = some o → s1.heap.objs.size ≠ c := fun e => Nat.ne_of_gt (Heap.lt_size e)
      have m1 : s1.heap.objs.size ≠ i1 := let ⟨_, e, _⟩ := r2.1; lt e
      have m2 : s1.heap.objs.size ≠ i2 := let ⟨_, e, _⟩ := r3.1; lt e
      have hi2 : i < ys.size := by omega
      rcases r4 with ⟨r4, c, d1, r5⟩ | ⟨T, f, oT, r4, r5, t1, t2, t3, t4⟩
      · refine wpAny_pyNext_zipD2_item S D1 D2 r4 r1 r5 r2 r3 hi hi2 fun x1 x2 h' tk p1 p2 a1 a2 a3 a4 a5 a6 hk => ?_
        exact hQ s1.heap.objs.size x1 x2 h' tk ⟨p1, p2⟩ (.inl ⟨_, a5, rfl, _, rfl⟩)
          ⟨hk _ _ D.TIz D.TITO D.TIi1 D.TIi2 r1, a3, a4, .inr ⟨s1.heap.objs.size, false, _, a1, a5, lt r4, m1, m2, Nat.ne_of_gt hds⟩⟩
          fun c o hc e => hk c o (fun t => hc (by simp [t])) (fun t => hc (by simp [t])) (fun t => hc (by simp [t])) (fun t => hc (by simp [t])) e
      · refine next_held_item S D1 D2 r4 r5 r1 r2 r3 hi hi2 fun x1 x2 h' tk p1 p2 a1 a3 a4 a5 a6 hk => ?_
        exact hQ s1.heap.objs.size x1 x2 h' tk ⟨p1, p2⟩ (.inl ⟨_, a5, rfl, _, rfl⟩)
          ⟨hk _ _ D.TIz D.TIi1 D.TIi2 r1, a3, a4, .inr ⟨T, true, oT, a1, hk _ _ t1 t2 t3 r5, t1, t2, t3, t4⟩⟩
          fun c o hc e => hk c o (fun t => hc (by simp [t])) (fun t => hc (by simp [t])) (fun t => hc (by simp [t])) e
    · obtain ⟨r1, r2, r3, r4⟩ := q
      rcases r4 with ⟨r4, c, d1, r5⟩ | ⟨T, f, oT, r4, r5, t1, t2, t3, t4⟩
      · exact wpAny_pyNext_zipD2_end S D1 D2 r4 r1 r5 r2 r3 (Nat.le_refl _) (by omega) (.inl rfl) fun h' tk hk => hQ h' tk fun c o hc e => hk c o (fun t => hc (by simp [t])) (fun t => hc (by simp [t])) (fun t => hc (by simp [t])) (fun t => hc (by simp [t])) e
      · exact next_held_end S D1 D2 r4 r5 r1 r2 r3 (Nat.le_refl _) (by omega) (.inl rfl) fun h' tk hk => hQ h' tk fun c o hc e => hk c o (fun t => hc (by simp [t])) (fun t => hc (by simp [t])) (fun t => hc (by simp [t])) e
end
/-- dict(zip(xs, ys)): the keys a list, the values a tuple as long -/
def tDictZ (K : PySem.W.Frag) (ta : TA) : TE := fun σ H Q => ta σ H fun vs H1 => ∃ (a b : Addr) (ks : List Key) (ys : List V), vs = [.ref a, .ref b] ∧ SqL K H1 a (ks.map kV) ∧ SqT K H1 b ys ∧ ks.length = ys.length ∧ ∀ p, H1 p = none → Q (.ref p) (upd H1 p (.dK (mergeK [] (ks.zip ys))))
theorem kv_zip : ∀ {ks : List Key} {ys : List V} {vs : List Value}, Vals ys vs → ks.length = ys.length → KV (ks.zip ys) (ks.zip vs)
  | [], _, _, _, _ => .nil
  | k :: ks, _, _, .cons h r, e => .cons ⟨rfl, h⟩ (kv_zip r (by simpa using e))
theorem pe_dictZ {X : Cx} {K : PySem.W.Frag} {e e2 : Expr} {ta : TA} {p p2 pos pos2 : Pos} (hc : X.calm = true) (hg : Gl X "dict") (hm : X.mg "dict" = none) (hg2 : Gl X "zip") (hm2 : X.mg "zip" = none) (ha : PA X [e, e2] ta) (hK : X.K = K := by rfl)
    (h1 : starEach [e, e2] X.env = (false, eval e X.env) :: starEach [e2] X.env := by rfl) (h2 : (backTo pos2 (starEach [e2] X.env)).any (·.1) = false := by rfl)
    (h3 : starEach [.Call (.Name "zip" p2) [e, e2] [] pos2] X.env = (false, eval (.Call (.Name "zip" p2) [e, e2] [] pos2) X.env) :: starEach [] X.env := by rfl) :
    PE X (.Call (.Name "dict" p) [.Call (.Name "zip" p2) [e, e2] [] pos2] [] pos) (tDictZ K ta) := by
  subst hK
  refine ⟨fun pins z0 σ H Q I h => ?_⟩
  refine Call_ (ld_blt I hg hm bt_dict (PyProof.Rows.callWith_type1 (args_cons ?_ h3) h3))
  refine Call_ (ld_blt I hg2 hm2 PyProof.Rows.boot_zip (PyProof.Rows.callWith_type1 (thn (ha.run pos2 pins z0 σ H _ I h) fun us z1 ⟨vs, H1, I1, r1, q1⟩ => ?_) h1 h2))
  obtain ⟨a, b, ks, ys, rfl, hqx, hqy, hlen, q⟩ := q1
  obtain ⟨u1, u2, rfl, r1', r2'⟩ := vals2 r1
  cases r1'
  cases r2'
  obtain ⟨its, rv, p1, hz1⟩ := I1.list hqx
  obtain ⟨its2, rv2, p2, _⟩ := I1.tuple hqy
  obtain ⟨o2, ho2, _⟩ := id p2
  have l1 : its.length = ks.length := by rw [← rv.length, List.length_map]
  have l2 : its2.length = ys.length := rv2.length.symm
  refine call_mz p1.isList (show z1.heap.IsTuple b its2.toArray from p2) fun h' g1 g2 g3 g4 g5 g6 hk => args_nil ?_
  have I2 : Inv X pins σ H1 { z1 with heap := h' } := I1.kept (t' := z1.toks) hk
  have D := PySem.W.ktu_apart z1.heap.objs.size a b p1.lt (Heap.lt_size ho2)
  have hz : ks.length ≤ sizeLine := by rw [List.length_map] at hz1; exact hz1
  refine call_dict_pairs (knd := mixKind X.prog X.w) (kvs := ks.zip its2) (pairs_mz _ _ _ _ _ a b D its.toArray its2.toArray (by simp; omega)) (I2.ok.hd hc) ⟨g1, g2, ⟨_, _, g3⟩, g4, g5, p1.isList.at fun o t => hk _ _ t, (show z1.heap.IsTuple b its2.toArray from p2).at fun o t => hk _ _ t⟩ ⟨by
    rw [List.length_zip]; simp; omega, fun i key v hr => ?_⟩ (by simp; omega) fun h2 tk hd' k2 => ?_
  · obtain ⟨t1, t2⟩ := hr
    have t1' : its[i]? = some key := by simpa using t1
    have t2' : its2[i]? = some v := by simpa using t2
    have hi : i < ks.length := by rw [← l1]; exact (List.getElem?_eq_some_iff.mp t1').1
    refine ⟨ks[i], ?_, ?_⟩
    · rw [List.getElem?_zip_eq_some]
      exact ⟨List.getElem?_eq_getElem hi, t2'⟩
    · obtain ⟨u, hu, ru⟩ := rv.get (i := i) (x := kV ks[i]) (by rw [List.getElem?_map, List.getElem?_eq_getElem hi]; rfl)
      rw [t1'] at hu
      cases hu
      exact kV_is (P := X.prog) (w := X.w) ru
  · have hbig : (h'.objs.size == sysModules) = false := beq_eq_false_iff_ne.mpr (Nat.ne_of_gt I2.big)
    have hlen2 : (mergeK [] (ks.zip ys)).length ≤ sizeLine := by
      refine Nat.le_trans (length_mergeK _ []) ?_
      rw [List.length_nil, Nat.zero_add, List.length_zip]
      omega
    have fresh : ∀ c o, z1.heap.get? c = some o → h2.get? c = some o := fun c o t => k2 c o (fun hm => by
      have hlt := Heap.lt_size t
      simp only [List.mem_cons, List.not_mem_nil, or_false] at hm
      rcases hm with rfl | rfl | rfl | rfl
      · exact absurd hlt (Nat.not_lt_of_le (Nat.le_add_right _ _))
      · exact absurd hlt (Nat.not_lt_of_le (Nat.le_add_right _ _))
      · exact absurd hlt (Nat.lt_irrefl _)
      · exact absurd hlt (Nat.not_lt_of_le (Nat.le_add_right _ _))) (hk c o t)
    have hle : z1.heap.objs.size ≤ h'.objs.size := by rw [g6]; exact Nat.le_add_right _ _
    refine ⟨.ref h'.objs.size, upd H1 h'.objs.size (.dK (mergeK [] (ks.zip ys))), ?_, rfl, q _ (I1.hok.fresh hle)⟩
    exact I1.laid (t' := tk) fresh hle (show ObjOk X.prog X.w _ _ _ (.dK (mergeK [] (ks.zip ys))) from ⟨hlen2, hbig, merged [] (ks.zip its2), KV.merge (kv_zip rv2 hlen) .nil, hd'⟩)
end Wd

set_option Elab.async false
set_option linter.all false
set_option maxRecDepth 100000
set_option maxHeartbeats 4000000
/-! What rooms bear, as plain data. -/
namespace Wd
open PySem PySem.Spec PyProof.Rows L2
def intsKv (rooms : List Str) (g : Str → Int) : List (Key × V) := rooms.map fun r => (.inr r, .int (g r))
theorem intsKv_keys (rooms : List Str) (g : Str → Int) : (intsKv rooms g).map (·.1) = rooms.map Sum.inr := by
  unfold intsKv
  rw [List.map_map]
  rfl
theorem intsKv_at {g : Str → Int} {r : Str} : ∀ {rooms : List Str}, r ∈ rooms → valV (intsKv rooms g) (.inr r) = some (.int (g r))
  | x :: rooms, h => by
    by_cases e : x = r
    · rw [e]
      exact valV_pos rfl
    · have e' : ¬ ((Sum.inr x : Key) = .inr r) := fun z => e (Sum.inr.inj z)
      rw [show intsKv (x :: rooms) g = (.inr x, .int (g x)) :: intsKv rooms g from rfl, valV_neg e']
      rcases List.mem_cons.mp h with z | z
      · exact absurd z.symm e
      · exact intsKv_at z
theorem intsKv_ext {rooms : List Str} {f g : Str → Int} (h : ∀ r ∈ rooms, f r = g r) : intsKv rooms f = intsKv rooms g := by
  unfold intsKv
  exact List.map_congr_left fun r hr => by rw [h r hr]
theorem intsKv_put {g : Str → Int} {r : Str} {v : Int} {rooms : List Str} (h : r ∈ rooms) : putK (intsKv rooms g) (.inr r) (.int v) = intsKv rooms fun q => if q = r then v else g q := by
  unfold putK
  have ha : (intsKv rooms g).any (fun kv => decide (kv.1 = (.inr r : Key))) = true := by
    rw [List.any_eq_true]
    exact ⟨(.inr r, .int (g r)), List.mem_map.mpr ⟨r, h, rfl⟩, by simp⟩
  rw [if_pos ha]
  unfold intsKv
  rw [List.map_map]
  refine List.map_congr_left fun q _ => ?_
  by_cases e : q = r
  · subst e
    simp
  · have : ¬ ((Sum.inr q : Key) = .inr r) := fun z => e (Sum.inr.inj z)
    simp [e, this]
theorem mergeK_new : ∀ {more acc : List (Key × V)}, ((acc ++ more).map (·.1)).Nodup → mergeK acc more = acc ++ more
  | [], acc, _ => by rw [List.append_nil]; rfl
  | x :: more, acc, n => by
    have hf : valV acc x.1 = none := valV_off fun m => by
      rw [List.map_append, List.map_cons] at n
      exact (List.nodup_append.mp n).2.2 _ m _ List.mem_cons_self rfl
    show mergeK (putK acc x.1 x.2) more = _
    rw [putK_new _ hf, mergeK_new (by rw [List.append_assoc]; exact n), List.append_assoc]
    rfl
def addAt (g : Str → Int) (r : Str) (h : Int) : Str → Int := fun q => if q = r then g r + h else g q
def whereKv (x : HallH) (rs : List Str) : List (Key × V) := (x.walkers.zip rs).map fun z => (.inr z.1.name, .str z.2)
def whereL : List (WalkH × Str) → Str → Option Str
  | [], _ => none
  | z :: r, q => if z.1.name = q then some z.2 else whereL r q
def whereH (x : HallH) (rs : List Str) (q : Str) : Str := (whereL (x.walkers.zip rs) q).getD q
theorem whereL_val {q : Str} : ∀ {zs : List (WalkH × Str)}, valV (zs.map fun z => ((.inr z.1.name : Key), V.str z.2)) (.inr q) = (whereL zs q).map V.str
  | [] => rfl
  | z :: r => by
    rw [List.map_cons]
    unfold whereL
    by_cases e : z.1.name = q
    · rw [if_pos e, e]
      exact valV_pos rfl
    · rw [if_neg e, valV_neg fun w => e (Sum.inr.inj w)]
      exact whereL_val
theorem where_val {x : HallH} {rs : List Str} {q : Str} : (valV (whereKv x rs) (.inr q)).getD (.str q) = .str (whereH x rs q) := by
  unfold whereKv whereH
  rw [whereL_val]
  cases whereL (x.walkers.zip rs) q <;> rfl
theorem whereL_in {q r : Str} : ∀ {zs : List (WalkH × Str)}, whereL zs q = some r → ∃ z ∈ zs, z.2 = r
  | z :: zs, h => by
    unfold whereL at h
    split at h
    · exact ⟨z, List.mem_cons_self, Option.some.inj h⟩
    · obtain ⟨y, hy, e⟩ := whereL_in h
      exact ⟨y, List.mem_cons_of_mem _ hy, e⟩
theorem whereL_none {q : Str} : ∀ {zs : List (WalkH × Str)}, whereL zs q = none → ∀ z ∈ zs, z.1.name ≠ q
  | z :: zs, h, y, hy => by
    unfold whereL at h
    split at h
    · cases h
    · rename_i e
      rcases List.mem_cons.mp hy with rfl | hy
      · exact e
      · exact whereL_none h y hy
theorem whereL_at {q : Str} {z : WalkH × Str} : ∀ {zs : List (WalkH × Str)}, (zs.map fun z => z.1.name).Nodup → z ∈ zs → whereL zs z.1.name = some z.2
  | y :: zs, n, h => by
    rw [List.map_cons] at n
    obtain ⟨n1, n2⟩ := List.nodup_cons.mp n
    unfold whereL
    rcases List.mem_cons.mp h with rfl | h
    · rw [if_pos rfl]
    · rw [if_neg fun e => n1 (by rw [e]; exact List.mem_map.mpr ⟨z, h, rfl⟩)]
      exact whereL_at (q := q) n2 h
theorem where_in {x : HallH} {t : Nat} {rs ps : List Str} (s : StandH x t rs ps) {q : Str} (h : q ∈ ps) : whereH x rs q ∈ x.rooms := by
  unfold whereH
  cases e : whereL (x.walkers.zip rs) q with
  | some r =>
    obtain ⟨z, hz, rfl⟩ := whereL_in e
    exact s.rin _ (List.of_mem_zip (a := z.1) (b := z.2) hz).2
  | none =>
    rcases s.pin q h with g | g
    · exact g
    · exfalso
      obtain ⟨w, hw, rfl⟩ := List.mem_map.mp g
      obtain ⟨i, hi, rfl⟩ := List.getElem_of_mem hw
      have hi2 : i < rs.length := by rw [s.rl]; exact hi
      have : (x.walkers[i], rs[i]) ∈ x.walkers.zip rs := by
        have e2 : (x.walkers.zip rs)[i]'(by rw [List.length_zip]; omega) = (x.walkers[i], rs[i]) := by rw [List.getElem_zip]
        rw [← e2]
        exact List.getElem_mem _
      exact whereL_none e _ this rfl
def folkW (a : Option Str) (zs : List (WalkH × Str)) (g : Str → Int) : Str → Int := zs.foldl (fun g z => if some z.1.name = a then g else addAt g z.2 z.1.heft) g
def stonesW (a : Option Str) (wh : Str → Str) (zs : List ((Str × Int) × Str)) (g : Str → Int) : Str → Int := zs.foldl (fun g z => if some z.2 = a then g else addAt g (wh z.2) z.1.2) g
def borneH (x : HallH) (rs ps : List Str) (a : Option Str) : Str → Int := stonesW a (whereH x rs) (x.stones.zip ps) (folkW a (x.walkers.zip rs) fun _ => 0)
theorem folkW_snoc (a : Option Str) (zs : List (WalkH × Str)) (z : WalkH × Str) (g : Str → Int) : folkW a (zs ++ [z]) g = if some z.1.name = a then folkW a zs g else addAt (folkW a zs g) z.2 z.1.heft := by
  unfold folkW
  rw [List.foldl_append]
  rfl
theorem stonesW_snoc (a : Option Str) (wh : Str → Str) (zs : List ((Str × Int) × Str)) (z : (Str × Int) × Str) (g : Str → Int) : stonesW a wh (zs ++ [z]) g = if some z.2 = a then stonesW a wh zs g else addAt (stonesW a wh zs g) (wh z.2) z.1.2 := by
  unfold stonesW
  rw [List.foldl_append]
  rfl
def optS (a : Option Str) : V := a.elim .non .str
theorem ne_opt {K : PySem.W.Frag} {H : Hp} {z : Str} {a : Option Str} {Q : VK} (q : Q (.bl (!decide (some z = a))) H) : rNeX K (.str z) (optS a) H Q := by
  cases a with
  | none =>
    refine .inl ⟨rfl, ?_⟩
    have e : decide (V.str z = optS none) = decide (some z = none) := by
      rw [decide_eq_false (by intro q; cases q), decide_eq_false (by intro q; cases q)]
    rw [e]
    exact q
  | some b =>
    refine .inl ⟨rfl, ?_⟩
    have e : decide (V.str z = optS (some b)) = decide (some z = some b) := by
      refine decide_eq_decide.mpr ⟨fun q => ?_, fun q => ?_⟩
      · injection q with q
        rw [q]
      · injection q with q
        rw [q]
        rfl
    rw [e]
    exact q
end Wd

set_option Elab.async false
set_option linter.all false
set_option maxRecDepth 100000
set_option maxHeartbeats 4000000
/-! Deeds as plain data. -/
namespace Wd
open PySem PySem.Spec PyProof.Rows L2
def metI (b : Int) (r : RowH) : Bool := decide (r.least ≤ b) && (match r.most with | none => true | some m => decide (b ≤ m))
def metB (g : Str → Int) (r : RowH) : Bool := metI (g r.room) r
def openB (g : Str → Int) (d : DoorH) : Bool := d.rows.all (metB g)
def farH (d : DoorH) (r : Str) : Option Str := if r = d.one then some d.other else if r = d.other ∧ d.way = "both" then some d.one else none
def goL (x : HallH) (g : Str → Int) (room : Str) : List Str := (x.doors.filter fun d => openB g d && (farH d room).isSome).map DoorH.name
def placedL (zs : List ((Str × Int) × Str)) (q : Str) : List Str := (zs.filter fun z => decide (z.2 = q)).map fun z => z.1.1
def deedD (z : List Str) : PyData := .tuple (z.map PyData.str)
def deedsOf (go lay lift : List Str) : List (List Str) := go.map (fun d => [(Str.ofString "go" : Str), d]) ++ lay.map (fun s => [(Str.ofString "lay" : Str), s]) ++ lift.map (fun s => [(Str.ofString "lift" : Str), s]) ++ [[(Str.ofString "wait" : Str)]]
theorem row_inv3 {N : Addr → Prop} {K : PySem.W.Frag} {H : Hp} {v : V} {r : RowH} (h : Dq N K H v r.data) : ∃ t : Addr, v = .ref t ∧ SqT K H t [.str r.room, .int r.least, optV r.most] := by
  cases h with
  | tup n e q =>
    cases q with
    | cons q1 q =>
      cases q with
      | cons q2 q =>
        cases q with
        | cons q3 q =>
          cases q
          cases q1
          cases q2
          refine ⟨_, rfl, ?_⟩
          cases hm : r.most with
          | none => rw [hm] at q3; cases q3; exact e
          | some m => rw [hm] at q3; cases q3; exact e
theorem leads_far (d : DoorH) (h : d.one ≠ d.other) (r : Str) : leadsOf1 d r = (farH d r).elim [] fun b => [(d.name, b)] := by
  unfold leadsOf1 farH
  by_cases c1 : r = d.one
  · have c2 : ¬ (d.way = "both" ∧ r = d.other) := fun z => h (c1.symm.trans z.2)
    rw [if_pos c1, if_pos c1, if_neg c2]
    rfl
  · by_cases c2 : d.way = "both" ∧ r = d.other
    · rw [if_neg c1, if_neg c1, if_pos c2, if_pos ⟨c2.2, c2.1⟩]
      rfl
    · rw [if_neg c1, if_neg c1, if_neg c2, if_neg fun z => c2 ⟨z.2, z.1⟩]
      rfl
/-- the doors that lead from a room and stand open -/
theorem leads_go {g : Str → Int} {p : Str → Bool} {r : Str} : ∀ {ds : List DoorH}, (∀ d ∈ ds, d.one ≠ d.other) → (∀ d ∈ ds, p d.name = openB g d) → ((leadsH ds r).filter fun z => p z.1).map Prod.fst = (ds.filter fun d => openB g d && (farH d r).isSome).map DoorH.name
  | [], _, _ => rfl
  | d :: ds, h, hp => by
    have ih := leads_go (g := g) (p := p) (r := r) (ds := ds) (fun z hz => h z (List.mem_cons_of_mem _ hz)) fun z hz => hp z (List.mem_cons_of_mem _ hz)
    have e : leadsH (d :: ds) r = leadsOf1 d r ++ leadsH ds r := by
      unfold leadsH
      rw [List.flatMap_cons]
    rw [e, leads_far d (h d List.mem_cons_self), List.filter_append, List.map_append, ih, List.filter_cons]
    cases hf : farH d r with
    | none => simp
    | some b =>
      have q := hp d List.mem_cons_self
      cases ho : openB g d with
      | true => rw [ho] at q; simp [q]
      | false => rw [ho] at q; simp [q]
theorem placed_count {q : Str} : ∀ {ss : List (Str × Int)} {ps : List Str}, ps.length = ss.length → (placedL (ss.zip ps) q).length = ps.count q
  | [], [], _ => rfl
  | s :: ss, p :: ps, h => by
    have ih := placed_count (q := q) (ss := ss) (ps := ps) (by simpa using h)
    unfold placedL at ih ⊢
    rw [List.zip_cons_cons, List.filter_cons, List.count_cons]
    by_cases e : p = q
    · subst e
      simp at ih ⊢
      exact ih
    · simp [e] at ih ⊢
      exact ih
theorem canLay_rows : ∀ {rs : List RowH}, (∀ r ∈ rs, PyData.strOk r.room = true) → PyData.canLayAll0 (rs.map RowH.data) = true ∧ PyData.depthAll (rs.map RowH.data) ≤ 10
  | [], _ => ⟨rfl, by decide⟩
  | r :: rs, h => by
    obtain ⟨h1, h2⟩ := canLay_rows (rs := rs) fun z hz => h z (List.mem_cons_of_mem _ hz)
    obtain ⟨_, g1, g2⟩ := plain_row (h r List.mem_cons_self)
    rw [List.map_cons]
    constructor
    · simp only [PyData.canLayAll0, g1, h1, Bool.and_self]
    · simp only [PyData.depthAll]
      omega
theorem shaped_rows {rs : List RowH} (h : ∀ r ∈ rs, PyData.strOk r.room = true) : SeqAt.shaped (.list (rs.map RowH.data)) = true := by
  obtain ⟨h1, h2⟩ := canLay_rows h
  unfold SeqAt.shaped
  have : PyData.depth (.list (rs.map RowH.data)) ≤ 64 := by
    simp only [PyData.depth]
    omega
  simp only [PyData.canLay0, h1, this, decide_true, Bool.and_self]
theorem eqvE_nil (ds : List PyData) : PyData.eqv (.list ds) (.list []) = ds.isEmpty := by
  cases ds <;> simp [PyData.eqv, PyData.eqvAll]
theorem open_empty {g : Str → Int} {d : DoorH} : (d.rows.filter fun r => !metB g r).isEmpty = openB g d := by
  unfold openB
  induction d.rows with
  | nil => rfl
  | cons r rs ih =>
    rw [List.filter_cons, List.all_cons]
    cases h : metB g r with
    | true => simp [ih]
    | false => simp
end Wd

set_option Elab.async false
set_option linter.all false
set_option maxRecDepth 100000
set_option maxHeartbeats 4000000
/-! sorted(xs) of a list of data; deeds rise. -/
namespace Wd
open PySem PySem.Spec PyProof.Rows L2 PySem.W
section
variable {X : Cx} {pins : List (Addr × Obj)} {σ : L2.St} {H : Hp} {s : Shared}
theorem each_of_valsD : ∀ {xs : List (V × PyData)} {vs : List Value}, Vals (xs.map Prod.fst) vs → EachIs (fun u (x : V × PyData) => RelV x.1 u) vs xs
  | [], _, .nil => .nil
  | _ :: _, _, .cons h r => .cons h (each_of_valsD r)
theorem vals_of_eachD : ∀ {xs : List (V × PyData)} {vs : List Value}, EachIs (fun u (x : V × PyData) => RelV x.1 u) vs xs → Vals (xs.map Prod.fst) vs
  | _, _, .nil => .nil
  | _, _, .cons h r => .cons h (vals_of_eachD r)
theorem each_readsD (I : Inv X pins σ H s) : ∀ {xs : List (V × PyData)} {vs : List Value}, (∀ x ∈ xs, Dp X.K H x.1 x.2) → Vals (xs.map Prod.fst) vs → EachIs (fun u (x : V × PyData) => ∃ as, Reads s.heap u x.2 as) vs xs
  | [], _, _, .nil => .nil
  | x :: _, _, hd, .cons h r => .cons (Dp.reads I x.2 x.1 _ (hd x List.mem_cons_self) h) (each_readsD I (fun y hy => hd y (List.mem_cons_of_mem _ hy)) r)
def rSortD (K : PySem.W.Frag) : List V → Hp → VK → Prop := fun vs H Q => ∃ (a : Addr) (bs : List (V × PyData)), vs = [V.ref a] ∧ SqL K H a (bs.map Prod.fst) ∧ (∀ b ∈ bs, Dp K H b.1 b.2) ∧ AllAlike (bs.map Prod.snd) ∧ PySem.W.Sortable (bs.map Prod.snd) ∧ (∀ b ∈ bs, b.2.depth ≤ 60) ∧
  ∀ p, H p = none → Q (.ref p) (upd H p (.lst ((bs.mergeSort (dataLe false Prod.snd)).map Prod.fst)))
theorem cr_sortD {K : PySem.W.Frag} (hu : X.A.units + 64 < cLine) (hK : X.K = K := by rfl) : CallR X (.builtin "sorted") (rSortD K) := by
  subst hK
  intro pins s σ H vs us Q I r h
  obtain ⟨a, bs, rfl, hs, hd, hal, hk, hdp, q⟩ := h
  obtain ⟨its, rv, pl, hz⟩ := I.list hs
  rw [Vals.ref1 r]
  have hl := rv.length
  rw [List.length_map] at hl hz
  refine sorted_data pl.isList (each_of_valsD rv) (each_readsD I hd rv) hal hk (by omega) (fun b hb => ?_) fun out ol eo => ?_
  · have := hdp b hb
    omega
  · have vo := vals_of_eachD eo
    obtain ⟨c, hc⟩ := sortedAll_at s.heap its (List.toArray out)
    have zo : ((bs.mergeSort (dataLe false Prod.snd)).map Prod.fst).length ≤ sizeLine := by rw [List.length_map, List.length_mergeSort]; exact hz
    refine ⟨.ref _, upd H _ (.lst ((bs.mergeSort (dataLe false Prod.snd)).map Prod.fst)), I.laid (t' := s.toks) (fun b u e => sortedAll_old e) (Nat.le_succ _) (show ObjOk X.prog X.w _ _ _ (.lst ((bs.mergeSort (dataLe false Prod.snd)).map Prod.fst)) from ⟨zo, out, c, vo, hc⟩), rfl, q _ (I.hok.fresh (Nat.le_succ _))⟩
end
/-! ### lists of texts as Python orders them -/
def toksS : List Str → List (Int ⊕ List Nat)
  | [] => [.inl 0]
  | x :: r => .inl 1 :: .inr x.cps.toList :: toksS r
theorem toks_strs : ∀ xs : List Str, keyToksAll (xs.map PyData.str) = toksS xs
  | [] => by rw [List.map_nil, keyToksAll, toksS]
  | x :: r => by
    rw [List.map_cons, keyToksAll, keyToks, toks_strs r, toksS]
    rfl
theorem toks_deed (z : List Str) : keyToks (deedD z) = toksS z := by
  unfold deedD
  rw [keyToks, toks_strs]
def leD (a b : List Str) : Prop := lexLt itemOrd (toksS b) (toksS a) = false
theorem leD_iff {β : Type} {k : β → List Str} {x y : β} : dataLe false (fun b => deedD (k b)) x y = true ↔ leD (k x) (k y) := by
  show (!lexLt itemOrd (keyToks (deedD (k y))) (keyToks (deedD (k x)))) = true ↔ _
  rw [toks_deed, toks_deed, Bool.not_eq_true']
  exact Iff.rfl
theorem leD_head {w : Str} {a b : Str} (h : leT a b) : leD [w, a] [w, b] := by
  unfold leD
  have e1 : toksS [w, b] = [.inl 1, .inr w.cps.toList, .inl 1] ++ [.inr b.cps.toList, .inl 0] := rfl
  have e2 : toksS [w, a] = [.inl 1, .inr w.cps.toList, .inl 1] ++ [.inr a.cps.toList, .inl 0] := rfl
  rw [e1, e2, lex_pre]
  by_cases e : a.cps.toList = b.cps.toList
  · rw [e]
    exact lex_irrefl _
  · rw [lex_cons]
    have hlt : ¬ b.cps.toList < a.cps.toList := fun z => List.not_lt.mpr h z
    have e1 : (itemOrd.blt (Sum.inr b.cps.toList) (Sum.inr a.cps.toList)) = false := decide_eq_false hlt
    have hgt : a.cps.toList < b.cps.toList := Decidable.byContradiction fun z => e (List.le_antisymm h (List.not_lt.mp z))
    have e2 : (itemOrd.blt (Sum.inr a.cps.toList) (Sum.inr b.cps.toList)) = true := decide_eq_true hgt
    rw [e1, e2]
    rfl
/-- unlike first words -/
theorem leD_word {w v : Str} {r t : List Str} (h : w.cps.toList < v.cps.toList) : leD (w :: r) (v :: t) := by
  unfold leD
  have e1 : toksS (v :: t) = [.inl 1] ++ (.inr v.cps.toList :: toksS t) := rfl
  have e2 : toksS (w :: r) = [.inl 1] ++ (.inr w.cps.toList :: toksS r) := rfl
  rw [e1, e2, lex_pre, lex_diff]
  · exact decide_eq_false fun z => List.lt_asymm h z
  · intro z
    have := Sum.inr.inj z
    rw [this] at h
    exact List.lt_irrefl _ h
theorem pair_map {w : Str} {xs : List Str} (h : xs.Pairwise leT) : (xs.map fun d => [w, d]).Pairwise leD := by
  rw [List.pairwise_map]
  exact h.imp fun h => leD_head h
theorem deeds_rise {go lay lift : List Str} (h1 : go.Pairwise leT) (h2 : lay.Pairwise leT) (h3 : lift.Pairwise leT) : (deedsOf go lay lift).Pairwise leD := by
  unfold deedsOf
  have wd : ∀ {w v : Str} {xs : List Str} {z y : List Str}, w.cps.toList < v.cps.toList → z ∈ xs.map (fun d => [w, d]) → (∃ t, y = v :: t) → leD z y := by
    intro w v xs z y hw hz ⟨t, e⟩
    obtain ⟨d, _, rfl⟩ := List.mem_map.mp hz
    rw [e]
    exact leD_word hw
  have hd : ∀ {w : Str} {xs : List Str} {z : List Str}, z ∈ xs.map (fun d => [w, d]) → ∃ t, z = w :: t := fun hz => by
    obtain ⟨d, _, rfl⟩ := List.mem_map.mp hz
    exact ⟨_, rfl⟩
  refine List.pairwise_append.mpr ⟨List.pairwise_append.mpr ⟨List.pairwise_append.mpr ⟨pair_map h1, pair_map h2, fun a ha b hb => wd (by decide) ha (hd hb)⟩, pair_map h3, fun a ha b hb => ?_⟩, List.pairwise_singleton _ _, fun a ha b hb => ?_⟩
  · rcases List.mem_append.mp ha with ha | ha
    · exact wd (by decide) ha (hd hb)
    · exact wd (by decide) ha (hd hb)
  · rw [List.mem_singleton.mp hb]
    rcases List.mem_append.mp ha with ha | ha
    · rcases List.mem_append.mp ha with ha | ha
      · exact wd (by decide) ha ⟨_, rfl⟩
      · exact wd (by decide) ha ⟨_, rfl⟩
    · exact wd (by decide) ha ⟨_, rfl⟩
theorem sort_keeps {bs : List (V × List Str)} (h : (bs.map Prod.snd).Pairwise leD) : (bs.map fun z => (z.1, deedD z.2)).mergeSort (dataLe false Prod.snd) = bs.map fun z => (z.1, deedD z.2) := by
  refine List.mergeSort_of_pairwise ?_
  rw [List.pairwise_map] at h ⊢
  exact h.imp fun {a b} h => leD_iff (k := fun z : V × List Str => z.2) (x := a) (y := b) |>.mpr h
theorem alike_deed : ∀ xs ys : List Str, alikeAll (xs.map PyData.str) (ys.map PyData.str) = true
  | [], _ => by rw [List.map_nil, alikeAll]
  | x :: xs, [] => by rw [List.map_cons, List.map_nil, alikeAll]
  | x :: xs, y :: ys => by rw [List.map_cons, List.map_cons, alikeAll, alike, alike_deed xs ys]; rfl
theorem alike_deeds {β : Type} {k : β → List Str} (bs : List β) : AllAlike (bs.map fun b => deedD (k b)) := AllAlike.of fun b b' => by
  unfold deedD
  rw [alike]
  exact alike_deed _ _
/-! ### what is laid or lifted -/
theorem placedL_snoc (zs : List ((Str × Int) × Str)) (a : (Str × Int) × Str) (q : Str) : placedL (zs ++ [a]) q = placedL zs q ++ if a.2 = q then [a.1.1] else [] := by
  unfold placedL
  rw [List.filter_append, List.map_append]
  by_cases e : a.2 = q
  · rw [if_pos e, List.filter_cons_of_pos (by simpa using e)]
    rfl
  · rw [if_neg e, List.filter_cons_of_neg (by simpa using e)]
    rfl
theorem placedL_len (zs : List ((Str × Int) × Str)) (q : Str) : (placedL zs q).length ≤ zs.length := by
  unfold placedL
  rw [List.length_map]
  exact List.length_filter_le _ _
theorem tOnly_deed (z : List Str) : tOnly (deedD z) = true := by
  unfold deedD
  rw [tOnly]
  exact tOnly_map (f := PyData.str) (fun _ => rfl) z
theorem deeds_move {N : Addr → Prop} {K : PySem.W.Frag} {H H' : Hp} {vs : List V} {ds : List (List Str)} (s : ∀ a xs, SqT K H a xs → SqT K H' a xs) (h : DqAll N K H vs (ds.map deedD)) : DqAll N K H' vs (ds.map deedD) :=
  DqAll.moveT (fun _ z => z) (fun a xs _ h => s a xs h) _ _ (tOnly_map tOnly_deed ds) h
theorem dq_deed2 {K : PySem.W.Frag} {H : Hp} {t : Addr} {a b : Str} (h : SqT K H t [.str a, .str b]) : Dq anyA K H (.ref t) (deedD [a, b]) := .tup trivial h (.cons (.str _) (.cons (.str _) .nil))
theorem dq_deed1 {K : PySem.W.Frag} {H : Hp} {t : Addr} {a : Str} (h : SqT K H t [.str a]) : Dq anyA K H (.ref t) (deedD [a]) := .tup trivial h (.cons (.str _) .nil)
theorem goL_far {x : HallH} {g : Str → Int} {r : Str} : ((x.doors.filter (openB g)).filter fun d => (farH d r).isSome).map DoorH.name = goL x g r := by
  unfold goL
  rw [List.filter_filter]
  congr 1
  exact List.filter_congr fun d _ => by rw [Bool.and_comm]
theorem DqAll.append {N : Addr → Prop} {K : PySem.W.Frag} {H : Hp} : ∀ {vs ws : List V} {ds es : List PyData}, DqAll N K H vs ds → DqAll N K H ws es → DqAll N K H (vs ++ ws) (ds ++ es)
  | [], _, [], _, .nil, h => h
  | _ :: _, _, _ :: _, _, .cons a r, h => .cons a (DqAll.append r h)
theorem vstr_ne {a b : Str} (h : ¬ decide (V.str a = V.str b) = true) : a ≠ b := fun e => h (decide_eq_true (by rw [e]))
theorem vstr_eq {a b : Str} (h : decide (V.str a = V.str b) = true) : a = b := by
  have := of_decide_eq_true h
  injection this
def deedsZ (x : HallH) (rs ps : List Str) (z : WalkH) (r : Str) : List (List Str) := deedsOf (goL x (borneH x rs ps (some z.name)) r) (placedL (x.stones.zip ps) z.name) (if (ps.count z.name : Int) < z.hands then placedL (x.stones.zip ps) r else [])
/-! ### all that is known of deeds that can be done -/
structure DeedsOk (ds : List (List Str)) : Prop where
  rise : ds.Pairwise leD
  names : ∀ d ∈ ds, ∀ s ∈ d, NameOk s
  two : ∀ d ∈ ds, d.length ≤ 2 ∧ d ≠ []
  few : ds.length ≤ 181
theorem goL_sub {x : HallH} {g : Str → Int} {r : Str} : (goL x g r).Sublist (x.doors.map DoorH.name) := by
  unfold goL
  exact (List.filter_sublist).map _
theorem placedL_sub {ss : List (Str × Int)} {ps : List Str} {q : Str} (h : ps.length = ss.length) : (placedL (ss.zip ps) q).Sublist (ss.map Prod.fst) := by
  have e : (ss.zip ps).map (fun z => z.1.1) = ss.map Prod.fst := by
    have : (ss.zip ps).map (fun z => z.1.1) = ((ss.zip ps).map Prod.fst).map Prod.fst := by rw [List.map_map]; rfl
    rw [this, List.map_fst_zip (by omega)]
  unfold placedL
  rw [← e]
  exact (List.filter_sublist).map _
theorem deedsZ_ok {sr sd ss sw t : Nat} {x : HallH} {rs ps : List Str} {z : WalkH} {r : Str} (ok : HallOk sr sd ss sw x) (b2 : sd ≤ 60) (b3 : ss ≤ 60) (sh : StandH x t rs ps) : DeedsOk (deedsZ x rs ps z r) := by
  unfold deedsZ
  generalize borneH x rs ps (some z.name) = g
  have hgo : (goL x g r).Sublist (x.doors.map DoorH.name) := goL_sub
  have hlay : (placedL (x.stones.zip ps) z.name).Sublist (x.stones.map Prod.fst) := placedL_sub sh.pl
  have hlift : (if (ps.count z.name : Int) < z.hands then placedL (x.stones.zip ps) r else []).Sublist (x.stones.map Prod.fst) := by
    split
    · exact placedL_sub sh.pl
    · exact List.nil_sublist _
  generalize goL x g r = go at hgo
  generalize placedL (x.stones.zip ps) z.name = lay at hlay
  generalize (if (ps.count z.name : Int) < z.hands then placedL (x.stones.zip ps) r else []) = lift at hlift
  have dn : ∀ y ∈ x.doors.map DoorH.name, NameOk y := fun y hy => ok.n2 _ (by unfold HallH.names; exact List.mem_append_right _ (List.mem_append_right _ (List.mem_append_right _ hy)))
  have sn : ∀ y ∈ x.stones.map Prod.fst, NameOk y := fun y hy => ok.n2 _ (by unfold HallH.names; exact List.mem_append_right _ (List.mem_append_right _ (List.mem_append_left _ hy)))
  have dl := ok.d2
  have sl := ok.s2
  have hd : ∀ d ∈ deedsOf go lay lift, (∃ w y, d = [w, y] ∧ NameOk w ∧ NameOk y) ∨ d = [(Str.ofString "wait" : Str)] := by
    intro d hd
    unfold deedsOf at hd
    rcases List.mem_append.mp hd with hd | hd
    · rcases List.mem_append.mp hd with hd | hd
      · rcases List.mem_append.mp hd with hd | hd
        · obtain ⟨y, hy, rfl⟩ := List.mem_map.mp hd
          exact .inl ⟨_, y, rfl, by decide +kernel, dn _ (hgo.subset hy)⟩
        · obtain ⟨y, hy, rfl⟩ := List.mem_map.mp hd
          exact .inl ⟨_, y, rfl, by decide +kernel, sn _ (hlay.subset hy)⟩
      · obtain ⟨y, hy, rfl⟩ := List.mem_map.mp hd
        exact .inl ⟨_, y, rfl, by decide +kernel, sn _ (hlift.subset hy)⟩
    · exact .inr (List.mem_singleton.mp hd)
  refine ⟨deeds_rise ((sorted_pair ok.d3).sublist hgo) ((sorted_pair ok.s3).sublist hlay) ((sorted_pair ok.s3).sublist hlift), fun d hm s hs => ?_, fun d hm => ?_, ?_⟩
  · rcases hd d hm with ⟨w, y, rfl, h1, h2⟩ | rfl
    · rcases List.mem_cons.mp hs with rfl | hs
      · exact h1
      · rw [List.mem_singleton.mp hs]; exact h2
    · rw [List.mem_singleton.mp hs]; decide +kernel
  · rcases hd d hm with ⟨w, y, rfl, h1, h2⟩ | rfl
    · exact ⟨by simp, by simp⟩
    · exact ⟨by simp, by simp⟩
  · have l1 := hgo.length_le
    have l2 := hlay.length_le
    have l3 := hlift.length_le
    rw [List.length_map] at l1 l2 l3
    unfold deedsOf
    rw [List.length_append, List.length_append, List.length_append, List.length_map, List.length_map, List.length_map]
    show _ + 1 ≤ 181
    omega
theorem neat_deed {d : List Str} (h : ∀ s ∈ d, NameOk s) (h2 : d.length ≤ 2) : Neat 18 1 (deedD d) := by
  unfold deedD
  refine neat_tup (w := 8) (dp := 0) (m := 2) (fun z hz => ?_) (by rw [List.length_map]; exact h2)
  obtain ⟨s, hs, rfl⟩ := List.mem_map.mp hz
  exact neat_name (h s hs)
theorem DeedsOk.neat {ds : List (List Str)} (h : DeedsOk ds) : Neat 3439 2 (.list (ds.map deedD)) :=
  neat_lst (w := 18) (dp := 1) (m := 181) (fun z hz => by
    obtain ⟨d, hd, rfl⟩ := List.mem_map.mp hz
    exact neat_deed (h.names d hd) (h.two d hd).1) (by rw [List.length_map]; exact h.few)
theorem eqv_strs : ∀ xs : List Str, PyData.eqvAll (xs.map PyData.str) (xs.map PyData.str) = true
  | [] => by simp [PyData.eqvAll]
  | x :: xs => by simp [PyData.eqvAll, PyData.eqv, eqv_strs xs]
theorem eqv_deeds : ∀ ds : List (List Str), PyData.eqvAll (ds.map deedD) (ds.map deedD) = true
  | [] => by simp [PyData.eqvAll]
  | d :: ds => by
    have h := eqv_strs d
    simp [PyData.eqvAll, deedD, PyData.eqv, h]
    exact eqv_deeds ds
theorem noDict_strs : ∀ xs : List Str, PyData.hasDictAll (xs.map PyData.str) = false := strs_noDict
theorem noDict_deed (d : List Str) : (deedD d).hasDict = false := by
  unfold deedD
  simp only [PyData.hasDict, strs_noDict]
theorem noDict_deeds : ∀ ds : List (List Str), PyData.hasDictAll (ds.map deedD) = false
  | [] => rfl
  | d :: ds => by
    rw [List.map_cons]
    simp only [PyData.hasDictAll, noDict_deeds ds, noDict_deed, Bool.or_false]
theorem lay_strs : ∀ {xs : List Str}, (∀ s ∈ xs, NameOk s) → PyData.canLayAll0 (xs.map PyData.str) = true
  | [], _ => rfl
  | x :: xs, h => by
    rw [List.map_cons]
    simp only [PyData.canLayAll0, PyData.canLay0, name_ok (h x List.mem_cons_self), lay_strs fun s hs => h s (List.mem_cons_of_mem _ hs), Bool.and_self]
theorem depth_strs : ∀ xs : List Str, PyData.depthAll (xs.map PyData.str) = 0
  | [] => by simp [PyData.depthAll]
  | x :: xs => by
    have h := depth_strs xs
    rw [List.map_cons]
    simp only [PyData.depthAll, PyData.depth, h]
    decide
theorem depth_deed (d : List Str) : (deedD d).depth ≤ 1 := by
  unfold deedD
  simp only [PyData.depth, depth_strs]
  omega
theorem lay_deeds : ∀ {ds : List (List Str)}, (∀ d ∈ ds, ∀ s ∈ d, NameOk s) → PyData.canLayAll0 (ds.map deedD) = true ∧ PyData.depthAll (ds.map deedD) ≤ 1
  | [], _ => ⟨rfl, by simp [PyData.depthAll]⟩
  | d :: ds, h => by
    obtain ⟨h1, h2⟩ := lay_deeds (ds := ds) fun z hz => h z (List.mem_cons_of_mem _ hz)
    have h3 := depth_deed d
    have h4 := lay_strs (h d List.mem_cons_self)
    rw [List.map_cons]
    constructor
    · simp only [PyData.canLayAll0, h1, Bool.and_true]
      unfold deedD
      simp only [PyData.canLay0, h4]
    · simp only [PyData.depthAll]
      omega
theorem DeedsOk.shaped {ds : List (List Str)} (h : DeedsOk ds) : SeqAt.shaped (.list (ds.map deedD)) = true := by
  obtain ⟨h1, h2⟩ := lay_deeds h.names
  exact shaped_list h1 (by omega)
/-- told != sorted(told) -/
theorem sorted_told {K : PySem.W.Frag} {H : Hp} {l : Addr} {vs : List V} {ds : List (List Str)} {Q : VK} (ok : DeedsOk ds) (hl : H l = some (.lst vs)) (dq : DqAll anyA K H vs (ds.map deedD)) (q : ∀ p, H p = none → Q (.bl false) (upd H p (.lst vs))) :
    rSortD K [.ref l] H fun y H' => rNeX K (.ref l) y H' Q := by
  have lv : vs.length = ds.length := by rw [dq.length, List.length_map]
  have f1 : ((vs.zip ds).map fun z => (z.1, deedD z.2)).map Prod.fst = vs := by
    rw [List.map_map]
    exact (List.map_fst_zip (l₁ := vs) (l₂ := ds) (by omega))
  have f2 : ((vs.zip ds).map fun z => (z.1, deedD z.2)).map Prod.snd = ds.map deedD := by
    rw [List.map_map]
    have e : (vs.zip ds).map Prod.snd = ds := List.map_snd_zip (by omega)
    rw [← e, List.map_map]
    rw [e]
    rfl
  have hdp : ∀ b ∈ (vs.zip ds).map fun z => (z.1, deedD z.2), Dp K H b.1 b.2 := by
    intro b hb
    obtain ⟨z, hz, rfl⟩ := List.mem_map.mp hb
    obtain ⟨i, hi, ez⟩ := List.getElem_of_mem hz
    rw [List.length_zip] at hi
    rw [List.getElem_zip] at ez
    subst ez
    obtain ⟨d, hd, dqd⟩ := dq.get (List.getElem?_eq_getElem (show i < vs.length by omega))
    rw [List.getElem?_map, List.getElem?_eq_getElem (show i < ds.length by omega)] at hd
    cases hd
    exact Dq.dp _ _ (noDict_deed _) dqd
  refine ⟨l, (vs.zip ds).map fun z => (z.1, deedD z.2), rfl, by rw [f1]; exact .inl (.inl hl), hdp, ?_, ?_, ?_, fun p np => ?_⟩
  · rw [f2]
    exact alike_deeds ds (k := fun d => d)
  · rw [f2]
    refine .inl fun d hd => ?_
    obtain ⟨z, hz, rfl⟩ := List.mem_map.mp hd
    obtain ⟨_, hn⟩ := ok.two z hz
    cases z with
    | nil => exact absurd rfl hn
    | cons a b => exact ⟨_, _, by unfold deedD; rw [List.map_cons]⟩
  · intro b hb
    obtain ⟨z, _, rfl⟩ := List.mem_map.mp hb
    have := depth_deed z.2
    show (deedD z.2).depth ≤ 60
    omega
  · have e : (vs.zip ds).map Prod.snd = ds := List.map_snd_zip (by omega)
    rw [sort_keeps (bs := vs.zip ds) (by rw [e]; exact ok.rise), f1]
    have s1 := same_new np (o := .lst vs)
    refine .inr ⟨.list (ds.map deedD), .list (ds.map deedD), ?_, ?_, ok.shaped, ok.shaped, ?_⟩
    · exact Dq.dp (N := anyA) _ _ (by simp only [PyData.hasDict]; exact noDict_deeds _) (.lst trivial (.inl (.inl (s1 _ _ hl))) (DqAll.mono s1 dq))
    · exact Dq.dp (N := anyA) _ _ (by simp only [PyData.hasDict]; exact noDict_deeds _) (.lst trivial (.inl (.inl upd_same)) (DqAll.mono s1 dq))
    · have : PyData.eqv (.list (ds.map deedD)) (.list (ds.map deedD)) = true := by
        simp only [PyData.eqv]
        exact eqv_deeds ds
      rw [this]
      exact q p np
/-! ### stands show short -/
theorem neat_stand {sr sd ss sw t : Nat} {x : HallH} {rs ps : List Str} (ok : HallOk sr sd ss sw x) (b1 : ss ≤ 60) (b4 : sw ≤ 60) (sh : StandH x t rs ps) : Neat 1623 2 (standD t rs ps) := by
  have rn : ∀ z ∈ x.rooms, NameOk z := fun z hz => ok.n2 _ (by unfold HallH.names; exact List.mem_append_left _ hz)
  have wn : ∀ z ∈ x.walkers.map WalkH.name, NameOk z := fun z hz => ok.n2 _ (by unfold HallH.names; exact List.mem_append_right _ (List.mem_append_left _ hz))
  have h1 := ok.w2
  have h2 := ok.s2
  have h3 := sh.t
  unfold standD
  refine neat_tup (w := 540) (dp := 1) (m := 3) (fun z hz => ?_) (by simp)
  rcases List.mem_cons.mp hz with rfl | hz
  · exact (neat_heft (i := (t : Int)) (by omega) (by omega)).mono (by decide) (by decide)
  rcases List.mem_cons.mp hz with rfl | hz
  · refine (neat_tup (w := 8) (dp := 0) (m := 60) (fun z hz => ?_) (by rw [List.length_map, sh.rl]; omega)).mono (by decide) (by decide)
    obtain ⟨s, hs, rfl⟩ := List.mem_map.mp hz
    exact neat_name (rn _ (sh.rin s hs))
  rw [List.mem_singleton.mp hz]
  refine (neat_tup (w := 8) (dp := 0) (m := 60) (fun z hz => ?_) (by rw [List.length_map, sh.pl]; omega)).mono (by decide) (by decide)
  obtain ⟨s, hs, rfl⟩ := List.mem_map.mp hz
  rcases sh.pin s hs with h | h
  · exact neat_name (rn _ h)
  · exact neat_name (wn _ h)
end Wd

set_option Elab.async false
set_option linter.all false
set_option maxRecDepth 100000
set_option maxHeartbeats 4000000
/-! A deed done: what stands behind it, as data. -/
namespace Wd
open PySem PySem.Spec PyProof.Rows L2
theorem iteN {c : Prop} [Decidable c] {A B : Prop} (h : ¬ c) (b : B) : if decide c = true then A else B := by
  rw [if_neg fun e => h (of_decide_eq_true e)]
  exact b
theorem iteY {c : Prop} [Decidable c] {A B : Prop} (h : c) (a : A) : if decide c = true then A else B := by
  rw [if_pos (decide_eq_true h)]
  exact a
theorem sne {a b : Str} (h : a ≠ b) : ¬ (V.str a = V.str b) := fun e => h (by injection e)
/-- the far side of the first told door of that name -/
def behindL (ds : List DoorH) (r dn : Str) : Option Str := ((leadsH ds r).find? fun z => decide (z.1 = dn)).map Prod.snd
theorem leads_off {dn r : Str} : ∀ {ds : List DoorH}, (∀ d ∈ ds, d.one ≠ d.other) → dn ∉ ds.map DoorH.name → (leadsH ds r).find? (fun z => decide (z.1 = dn)) = none
  | [], _, _ => rfl
  | d :: ds, h, n => by
    have e : leadsH (d :: ds) r = leadsOf1 d r ++ leadsH ds r := rfl
    rw [e, List.find?_append, leads_off (fun z hz => h z (List.mem_cons_of_mem _ hz)) fun m => n (List.mem_cons_of_mem _ m), leads_far d (h d List.mem_cons_self)]
    cases farH d r with
    | none => rfl
    | some b =>
      have : d.name ≠ dn := fun z => n (by rw [← z]; exact List.mem_cons_self)
      simp [Option.elim, this]
theorem behind_far {r : Str} {d : DoorH} : ∀ {ds : List DoorH}, (ds.map DoorH.name).Nodup → (∀ d ∈ ds, d.one ≠ d.other) → d ∈ ds → behindL ds r d.name = farH d r
  | d0 :: ds, nd, h, hd => by
    have e : leadsH (d0 :: ds) r = leadsOf1 d0 r ++ leadsH ds r := rfl
    obtain ⟨n0, n1⟩ := List.nodup_cons.mp nd
    unfold behindL
    rw [e, List.find?_append, leads_far d0 (h d0 List.mem_cons_self)]
    rcases List.mem_cons.mp hd with rfl | hd
    · rw [leads_off (fun z hz => h z (List.mem_cons_of_mem _ hz)) n0]
      cases farH d r with
      | none => rfl
      | some b => simp [Option.elim]
    · have ne : d0.name ≠ d.name := fun z => n0 (by rw [z]; exact List.mem_map.mpr ⟨d, hd, rfl⟩)
      have ih := behind_far (r := r) n1 (fun z hz => h z (List.mem_cons_of_mem _ hz)) hd
      unfold behindL at ih
      cases farH d0 r with
      | none => simpa [Option.elim] using ih
      | some b => simpa [Option.elim, ne] using ih
/-- a deed that can be done in form: the walker's rooms and the stones' places behind it -/
inductive StepH (x : HallH) (t : Nat) (rs ps : List Str) : List Str → List Str → List Str → Prop
  | go {d : DoorH} {r b : Str} (hd : d ∈ x.doors) (hr : rs[t]? = some r) (hb : farH d r = some b) : StepH x t rs ps [Str.ofString "go", d.name] (rs.set t b) ps
  | lift {j : Nat} {s : Str} {z : WalkH} (hs : (x.stones.map Prod.fst)[j]? = some s) (hz : x.walkers[t]? = some z) : StepH x t rs ps [Str.ofString "lift", s] rs (ps.set j z.name)
  | lay {j : Nat} {s r : Str} (hs : (x.stones.map Prod.fst)[j]? = some s) (hr : rs[t]? = some r) : StepH x t rs ps [Str.ofString "lay", s] rs (ps.set j r)
  | wait : StepH x t rs ps [Str.ofString "wait"] rs ps
theorem first_at {xs : List Str} (nd : xs.Nodup) {j : Nat} {s : Str} (h : xs[j]? = some s) {m : Nat} {z : Str} (hm : m < j) (hz : xs[m]? = some z) : z ≠ s := fun e => by
  subst e
  have h1 := (List.getElem?_eq_some_iff.mp h).1
  have h2 := (List.getElem?_eq_some_iff.mp hz).1
  exact (List.pairwise_iff_getElem.mp nd) m j h2 h1 hm (by rw [(List.getElem?_eq_some_iff.mp h).2, (List.getElem?_eq_some_iff.mp hz).2])
theorem lead_inv2 {N : Addr → Prop} {K : PySem.W.Frag} {H : Hp} {v : V} {z : Str × Str} (h : Dq N K H v (leadD z)) : ∃ t : Addr, v = .ref t ∧ SqT K H t [.str z.1, .str z.2] := by
  unfold leadD at h
  cases h with
  | tup n e q =>
    cases q with
    | cons q1 q =>
      cases q with
      | cons q2 q =>
        cases q
        cases q1
        cases q2
        exact ⟨_, rfl, e⟩
theorem unm_empty {K : PySem.W.Frag} {v2 : List V} {g : Str → Int} {d : DoorH} {H : Hp} (dq : DqAll anyA K H v2 ((d.rows.filter fun r => !metB g r).map fun r => PyData.tuple [r.data, .int (g r.room)])) : v2.isEmpty = openB g d := by
  rw [← open_empty]
  have := dq.length
  rw [List.length_map] at this
  cases v2 with
  | nil => cases h : d.rows.filter fun r => !metB g r with
    | nil => rfl
    | cons a b => rw [h] at this; cases this
  | cons a b => cases h : d.rows.filter fun r => !metB g r with
    | nil => rw [h] at this; cases this
    | cons a b => rfl
/-- the place of a stone -/
def placeOf (x : HallH) (ps : List Str) (s : Str) : Option Str := ((x.stones.zip ps).find? fun z => decide (z.1.1 = s)).map Prod.snd
theorem place_at {s q : Str} : ∀ {ss : List (Str × Int)} {ps : List Str} {j : Nat}, (ss.map Prod.fst).Nodup → (ss.map Prod.fst)[j]? = some s → ps[j]? = some q → ((ss.zip ps).find? fun z => decide (z.1.1 = s)).map Prod.snd = some q
  | a :: ss, p :: ps, 0, _, h1, h2 => by
    have e1 : a.1 = s := by simpa using h1
    have e2 : p = q := by simpa using h2
    simp [e1, e2]
  | a :: ss, p :: ps, j + 1, nd, h1, h2 => by
    obtain ⟨n0, n1⟩ := List.nodup_cons.mp nd
    have h1' : (ss.map Prod.fst)[j]? = some s := by simpa using h1
    have h2' : ps[j]? = some q := by simpa using h2
    have ne : ¬ a.1 = s := fun e => n0 (by rw [e]; exact List.mem_of_getElem? h1')
    rw [List.zip_cons_cons, List.find?_cons_of_neg (by simp [ne])]
    exact place_at n1 h1' h2'
theorem place_off {s : Str} {ss : List (Str × Int)} {ps : List Str} (h : s ∉ ss.map Prod.fst) : ((ss.zip ps).find? fun z => decide (z.1.1 = s)).map Prod.snd = none := by
  have : (ss.zip ps).find? (fun z => decide (z.1.1 = s)) = none := List.find?_eq_none.mpr fun z hz e => h (by
    have e' : z.1.1 = s := of_decide_eq_true e
    rw [← e']
    exact List.mem_map.mpr ⟨z.1, (List.of_mem_zip hz).1, rfl⟩)
  rw [this]
  rfl
end Wd

set_option Elab.async false
set_option linter.all false
set_option maxRecDepth 100000
set_option maxHeartbeats 4000000
/-! Why a deed can't be done, as data; what can be done, and that it leaves a stand. -/
namespace Wd
open PySem PySem.Spec PyProof.Rows L2
instance (z : Str) : Decidable (NameOk z) := by unfold NameOk IsName; infer_instance
def whyGo (x : HallH) (g : Str → Int) (r dn : Str) : Option Str := match x.doors.find? (fun d => decide (d.name = dn)) with
  | none => some "door"
  | some d => if (farH d r).isNone then some "room" else if openB g d then none else some "shut"
def whyLift (x : HallH) (ps : List Str) (z : WalkH) (r s : Str) : Option Str := match placeOf x ps s with
  | none => some "stone"
  | some q => if q ≠ r then some "far" else if z.hands ≤ (ps.count z.name : Nat) then some "hands" else none
def whyLay (x : HallH) (ps : List Str) (z : WalkH) (s : Str) : Option Str := match placeOf x ps s with
  | none => some "stone"
  | some q => if q ≠ z.name then some "held" else none
def goS : Str := Str.ofString "go"
def liftS : Str := Str.ofString "lift"
def layS : Str := Str.ofString "lay"
def deedB : List Str → Bool
  | [w, n] => [goS, liftS, layS].any (fun y => decide (y = w)) && decide (NameOk n)
  | [w] => decide (w = Str.ofString "wait")
  | _ => false
def whyD (x : HallH) (rs ps : List Str) (z : WalkH) (r : Str) (d : List Str) : Option Str := if deedB d then (match d with
  | [w, n] => if w = goS then whyGo x (borneH x rs ps (some z.name)) r n else if w = liftS then whyLift x ps z r n else whyLay x ps z n
  | _ => none) else some (Str.ofString "form")
theorem find_name {d : DoorH} : ∀ {ds : List DoorH}, (ds.map DoorH.name).Nodup → d ∈ ds → ds.find? (fun e => decide (e.name = d.name)) = some d
  | e :: ds, nd, hd => by
    obtain ⟨n0, n1⟩ := List.nodup_cons.mp nd
    rcases List.mem_cons.mp hd with rfl | hd
    · exact List.find?_cons_of_pos (by simp)
    · have ne : ¬ e.name = d.name := fun z => n0 (by rw [z]; exact List.mem_map.mpr ⟨d, hd, rfl⟩)
      rw [List.find?_cons_of_neg (by simp [ne])]
      exact find_name n1 hd
theorem placed_in {x : HallH} {ps : List Str} {q s : Str} (h : s ∈ placedL (x.stones.zip ps) q) : ∃ j : Nat, (x.stones.map Prod.fst)[j]? = some s ∧ ps[j]? = some q := by
  unfold placedL at h
  obtain ⟨z, hz, rfl⟩ := List.mem_map.mp h
  obtain ⟨hz1, hz2⟩ := List.mem_filter.mp hz
  obtain ⟨j, hj⟩ := List.mem_iff_getElem?.mp hz1
  have e2 : z.2 = q := of_decide_eq_true hz2
  obtain ⟨h1, h2⟩ := List.getElem?_zip_eq_some.mp hj
  exact ⟨j, by rw [List.getElem?_map, h1]; rfl, by rw [h2, e2]⟩
theorem names_apart {x : HallH} {q : Str} (nd : x.names.Nodup) (h : q ∈ x.rooms) : q ∉ x.walkers.map WalkH.name := fun m => by
  unfold HallH.names at nd
  exact (List.nodup_append.mp nd).2.2 q h q (List.mem_append_left _ m) rfl
/-- each told deed can be done -/
theorem deeds_why {sr sd ss sw t : Nat} {x : HallH} {rs ps d : List Str} {z : WalkH} {r : Str} (ok : HallOk sr sd ss sw x) (sh : StandH x t rs ps) (hz : x.walkers[t]? = some z) (hr : rs[t]? = some r) (hd : d ∈ deedsZ x rs ps z r) :
    whyD x rs ps z r d = none ∧ ∃ rs' ps', StepH x t rs ps d rs' ps' := by
  have nk := ok.n2
  have nd := ok.n1
  have na := names_apart ok.n1 (sh.rin r (List.mem_of_getElem? hr))
  have zin : z.name ∈ x.walkers.map WalkH.name := List.mem_map.mpr ⟨z, List.mem_of_getElem? hz, rfl⟩
  unfold HallH.names at nk nd
  have snd : (x.stones.map Prod.fst).Nodup := (List.nodup_append.mp (List.nodup_append.mp (List.nodup_append.mp nd).2.1).2.1).1
  have dnd : (x.doors.map DoorH.name).Nodup := (List.nodup_append.mp (List.nodup_append.mp (List.nodup_append.mp nd).2.1).2.1).2.1
  have dnk : ∀ y ∈ x.doors.map DoorH.name, NameOk y := fun y hy => nk y (List.mem_append_right _ (List.mem_append_right _ (List.mem_append_right _ hy)))
  have snk : ∀ y ∈ x.stones.map Prod.fst, NameOk y := fun y hy => nk y (List.mem_append_right _ (List.mem_append_right _ (List.mem_append_left _ hy)))
  have b2 : ∀ {w n : Str}, (w = goS ∨ w = liftS ∨ w = layS) → NameOk n → deedB [w, n] = true := fun {w n} hw hn => by
    show ([goS, liftS, layS].any (fun y => decide (y = w)) && decide (NameOk n)) = true
    rw [decide_eq_true hn, Bool.and_true, List.any_eq_true]
    exact ⟨w, by simpa using hw, by simp⟩
  have lg : ¬ layS = goS := by decide +kernel
  have ll : ¬ layS = liftS := by decide +kernel
  have lf : ¬ liftS = goS := by decide +kernel
  unfold deedsZ deedsOf at hd
  rcases List.mem_append.mp hd with hd | hd
  · rcases List.mem_append.mp hd with hd | hd
    · rcases List.mem_append.mp hd with hd | hd
      · obtain ⟨n, hn, rfl⟩ := List.mem_map.mp hd
        unfold goL at hn
        obtain ⟨dd, hdd, rfl⟩ := List.mem_map.mp hn
        obtain ⟨h1, h2⟩ := List.mem_filter.mp hdd
        obtain ⟨h3, h4⟩ := Bool.and_eq_true_iff.mp h2
        obtain ⟨bb, hb⟩ := Option.isSome_iff_exists.mp h4
        refine ⟨?_, _, _, .go h1 hr hb⟩
        have hb2 := b2 (w := goS) (.inl rfl) (dnk _ (List.mem_map.mpr ⟨dd, h1, rfl⟩))
        unfold whyD
        rw [show (Str.ofString "go" : Str) = goS from rfl, hb2, if_pos rfl]
        simp only [if_true]
        unfold whyGo
        rw [find_name dnd h1]
        simp [hb, h3]
      · obtain ⟨n, hn, rfl⟩ := List.mem_map.mp hd
        obtain ⟨j, h1, h2⟩ := placed_in hn
        refine ⟨?_, _, _, .lay h1 hr⟩
        have hb2 := b2 (w := layS) (.inr (.inr rfl)) (snk _ (List.mem_of_getElem? h1))
        have hp : placeOf x ps n = some z.name := place_at snd h1 h2
        unfold whyD
        rw [show (Str.ofString "lay" : Str) = layS from rfl, hb2, if_pos rfl]
        simp only [lg, ll, if_false]
        unfold whyLay
        rw [hp]
        simp
    · obtain ⟨n, hn, rfl⟩ := List.mem_map.mp hd
      split at hn
      · rename_i hc
        obtain ⟨j, h1, h2⟩ := placed_in hn
        refine ⟨?_, _, _, .lift h1 hz⟩
        have hb2 := b2 (w := liftS) (.inr (.inl rfl)) (snk _ (List.mem_of_getElem? h1))
        have hp : placeOf x ps n = some r := place_at snd h1 h2
        unfold whyD
        rw [show (Str.ofString "lift" : Str) = liftS from rfl, hb2, if_pos rfl]
        simp only [lf, if_false, if_true]
        unfold whyLift
        rw [hp]
        have : ¬ z.hands ≤ ((ps.count z.name : Nat) : Int) := by omega
        simp [this]
      · cases hn
  · rw [List.mem_singleton.mp hd]
    refine ⟨?_, _, _, .wait⟩
    unfold whyD
    rw [show deedB [Str.ofString "wait"] = true from by show decide (Str.ofString "wait" = Str.ofString "wait") = true; exact decide_eq_true rfl, if_pos rfl]
/-- behind a deed that can be done there is a stand -/
theorem step_stand {sr sd ss sw t : Nat} {x : HallH} {rs ps d rs' ps' : List Str} {z : WalkH} {r : Str} (ok : HallOk sr sd ss sw x) (sh : StandH x t rs ps) (hz : x.walkers[t]? = some z) (hr : rs[t]? = some r) (st : StepH x t rs ps d rs' ps') (hw : whyD x rs ps z r d = none) :
    StandH x ((t + 1) % x.walkers.length) rs' ps' := by
  have w1 := ok.w1
  have tn : (t + 1) % x.walkers.length < x.walkers.length := Nat.mod_lt _ (by omega)
  have na := names_apart ok.n1 (sh.rin r (List.mem_of_getElem? hr))
  cases st with
  | wait => exact ⟨tn, sh.rl, sh.rin, sh.pl, sh.pin, sh.cnt⟩
  | @go d r0 b hd hr0 hb =>
    refine ⟨tn, by rw [List.length_set, sh.rl], fun q hq => ?_, sh.pl, sh.pin, sh.cnt⟩
    rcases List.mem_or_eq_of_mem_set hq with hq | rfl
    · exact sh.rin q hq
    · have dk := ok.d4 d hd
      unfold farH at hb
      split at hb
      · cases hb
        exact dk.other
      · split at hb
        · cases hb
          exact dk.one
        · cases hb
  | @lay j s r0 hs hr0 =>
    have e : r0 = r := by rw [hr] at hr0; exact (Option.some.inj hr0).symm
    subst e
    refine ⟨tn, sh.rl, sh.rin, by rw [List.length_set, sh.pl], fun q hq => ?_, fun y hy => ?_⟩
    · rcases List.mem_or_eq_of_mem_set hq with hq | rfl
      · exact sh.pin q hq
      · exact .inl (sh.rin _ (List.mem_of_getElem? hr))
    · have jl := (List.getElem?_eq_some_iff.mp hs).1
      rw [List.length_map, ← sh.pl] at jl
      have ne : ¬ r0 = y.name := fun e => na (by rw [e]; exact List.mem_map.mpr ⟨y, hy, rfl⟩)
      have := sh.cnt y hy
      rw [List.count_set jl]
      simp only [beq_iff_eq, ne, if_false]
      omega
  | @lift j s z0 hs hz0 =>
    have e : z0 = z := by rw [hz] at hz0; exact (Option.some.inj hz0).symm
    subst e
    have nd := ok.n1
    unfold HallH.names at nd
    have snd : (x.stones.map Prod.fst).Nodup := (List.nodup_append.mp (List.nodup_append.mp (List.nodup_append.mp nd).2.1).2.1).1
    have wnd : (x.walkers.map WalkH.name).Nodup := (List.nodup_append.mp (List.nodup_append.mp nd).2.1).1
    have jl := (List.getElem?_eq_some_iff.mp hs).1
    rw [List.length_map, ← sh.pl] at jl
    have hp : placeOf x ps s = some ps[j] := place_at snd hs (List.getElem?_eq_getElem jl)
    have hb : deedB [liftS, s] = true := by
      unfold whyD at hw
      by_cases hb : deedB [Str.ofString "lift", s] = true
      · exact hb
      · rw [if_neg hb] at hw
        cases hw
    have lf : ¬ liftS = goS := by decide +kernel
    have hl : whyLift x ps z0 r s = none := by
      unfold whyD at hw
      rw [show (Str.ofString "lift" : Str) = liftS from rfl, hb, if_pos rfl] at hw
      simpa only [lf, if_false, if_true] using hw
    unfold whyLift at hl
    rw [hp] at hl
    simp only [] at hl
    split at hl
    · cases hl
    rename_i hpr
    split at hl
    · cases hl
    rename_i hc
    refine ⟨tn, sh.rl, sh.rin, by rw [List.length_set, sh.pl], fun q hq => ?_, fun y hy => ?_⟩
    · rcases List.mem_or_eq_of_mem_set hq with hq | rfl
      · exact sh.pin q hq
      · exact .inr (List.mem_map.mpr ⟨z0, List.mem_of_getElem? hz, rfl⟩)
    · have := sh.cnt y hy
      rw [List.count_set jl]
      by_cases e : z0.name = y.name
      · have ez : z0.hands = y.hands := by
          have : z0 = y := by
            obtain ⟨i, hi⟩ := List.mem_iff_getElem?.mp hy
            have h1 : (x.walkers.map WalkH.name)[t]? = some z0.name := by rw [List.getElem?_map, hz]; rfl
            have h2 : (x.walkers.map WalkH.name)[i]? = some y.name := by rw [List.getElem?_map, hi]; rfl
            by_cases ti : t = i
            · subst ti
              rw [hz] at hi
              exact Option.some.inj hi
            · exfalso
              rcases Nat.lt_or_gt_of_ne ti with h | h
              · exact first_at wnd h2 h h1 e
              · exact first_at wnd h1 h h2 e.symm
          rw [this]
        simp only [beq_iff_eq, e, if_true]
        rw [← e]
        omega
      · simp only [beq_iff_eq, e, if_false]
        omega
theorem place_in {x : HallH} {ps : List Str} {s q : Str} (h : placeOf x ps s = some q) : s ∈ placedL (x.stones.zip ps) q := by
  unfold placeOf at h
  obtain ⟨z, hz, e⟩ := Option.map_eq_some_iff.mp h
  have h1 := List.mem_of_find?_eq_some hz
  have h2 : z.1.1 = s := by
    have := List.find?_some hz
    exact of_decide_eq_true this
  unfold placedL
  exact List.mem_map.mpr ⟨z, List.mem_filter.mpr ⟨h1, decide_eq_true e⟩, h2⟩
/-- what can be done is told -/
theorem why_deeds {x : HallH} {rs ps d : List Str} {z : WalkH} {r : Str} (hl : d.length = 1 ∨ d.length = 2) (hw : whyD x rs ps z r d = none) : d ∈ deedsZ x rs ps z r := by
  unfold whyD at hw
  by_cases hb : deedB d = true
  · rw [if_pos hb] at hw
    match d, hl, hb, hw with
    | [w], _, hb, _ =>
      have e : w = Str.ofString "wait" := of_decide_eq_true hb
      subst e
      unfold deedsZ deedsOf
      exact List.mem_append_right _ (List.mem_singleton.mpr rfl)
    | [w, n], _, hb, hw =>
      have hw' : w = goS ∨ w = liftS ∨ w = layS := by
        have h1 := (Bool.and_eq_true_iff.mp hb).1
        obtain ⟨u, hu1, hu2⟩ := List.any_eq_true.mp h1
        have e : u = w := of_decide_eq_true hu2
        subst e
        simpa using hu1
      have lg : ¬ layS = goS := by decide +kernel
      have ll : ¬ layS = liftS := by decide +kernel
      have lf : ¬ liftS = goS := by decide +kernel
      unfold deedsZ deedsOf
      rcases hw' with rfl | rfl | rfl
      · simp only [if_true] at hw
        unfold whyGo at hw
        cases hf : x.doors.find? (fun d => decide (d.name = n)) with
        | none => rw [hf] at hw; cases hw
        | some dd =>
          rw [hf] at hw
          simp only [] at hw
          have h1 := List.mem_of_find?_eq_some hf
          have h2 : dd.name = n := by
            have := List.find?_some hf
            exact of_decide_eq_true this
          subst h2
          split at hw
          · cases hw
          rename_i hs
          split at hw
          · rename_i ho
            refine List.mem_append_left _ (List.mem_append_left _ (List.mem_append_left _ (List.mem_map.mpr ⟨dd.name, ?_, rfl⟩)))
            unfold goL
            refine List.mem_map.mpr ⟨dd, List.mem_filter.mpr ⟨h1, ?_⟩, rfl⟩
            rw [ho, Bool.true_and]
            cases hfr : farH dd r with
            | none => rw [hfr] at hs; exact absurd rfl hs
            | some b => rfl
          · cases hw
      · simp only [lf, if_false, if_true] at hw
        unfold whyLift at hw
        cases hp : placeOf x ps n with
        | none => rw [hp] at hw; cases hw
        | some q =>
          rw [hp] at hw
          simp only [] at hw
          split at hw
          · cases hw
          rename_i hq
          have hq : q = r := Decidable.of_not_not hq
          split at hw
          · cases hw
          rename_i hc
          refine List.mem_append_left _ (List.mem_append_right _ (List.mem_map.mpr ⟨n, ?_, rfl⟩))
          rw [if_pos (by omega), ← hq]
          exact place_in hp
      · simp only [lg, ll, if_false] at hw
        unfold whyLay at hw
        cases hp : placeOf x ps n with
        | none => rw [hp] at hw; cases hw
        | some q =>
          rw [hp] at hw
          simp only [] at hw
          split at hw
          · cases hw
          rename_i hq
          have hq : q = z.name := Decidable.of_not_not hq
          refine List.mem_append_left _ (List.mem_append_left _ (List.mem_append_right _ (List.mem_map.mpr ⟨n, ?_, rfl⟩)))
          rw [← hq]
          exact place_in hp
  · rw [if_neg hb] at hw
    cases hw
end Wd

set_option Elab.async false
set_option linter.all false
set_option maxRecDepth 100000
set_option maxHeartbeats 4000000
/-! Doors that stand open ahead, without what was shut and with what was opened, are those behind. -/
namespace Wd
open PySem PySem.Spec PyProof.Rows L2
def offL (as bs : List Str) : List Str := as.filter fun a => decide (a ∉ bs)
theorem offL_len (as bs : List Str) : (offL as bs).length ≤ as.length := List.length_filter_le _ _
theorem offL_mem {as bs : List Str} {a : Str} : a ∈ offL as bs ↔ a ∈ as ∧ a ∉ bs := by
  unfold offL
  rw [List.mem_filter, decide_eq_true_iff]
theorem offL_self (as : List Str) : offL as as = [] := List.filter_eq_nil_iff.mpr fun a ha h => (of_decide_eq_true h) ha
theorem swing_perm {as bs : List Str} (ha : as.Nodup) (hb : bs.Nodup) : (offL as (offL as bs) ++ offL bs as).Perm bs := by
  refine (List.perm_ext_iff_of_nodup ?_ hb).mpr fun c => ?_
  · refine List.nodup_append.mpr ⟨List.Nodup.sublist List.filter_sublist ha, List.Nodup.sublist List.filter_sublist hb, fun x hx y hy e => ?_⟩
    subst e
    exact (offL_mem.mp hy).2 (offL_mem.mp hx).1
  · rw [List.mem_append, offL_mem, offL_mem, offL_mem]
    by_cases h1 : c ∈ as <;> by_cases h2 : c ∈ bs <;> simp [h1, h2]
def openL (x : HallH) (rs ps : List Str) : List Str := (x.doors.filter (openB (borneH x rs ps none))).map DoorH.name
theorem openL_sub (x : HallH) (rs ps : List Str) : (openL x rs ps).Sublist (x.doors.map DoorH.name) := List.Sublist.map _ List.filter_sublist
end Wd

set_option Elab.async false
set_option linter.all false
set_option maxRecDepth 100000
set_option maxHeartbeats 4000000
/-! x in xs, x not in xs: xs a list or a tuple of texts, x of any kind. -/
namespace Wd
open PySem PySem.Spec PyProof.Rows L2 PySem.SeqAt
section
variable {A : Around} {s : Shared}
theorem str_declines_dict (b : Str) (u : Tok) (l : Addr) (c : Value) (es : Array DictEntry) (n : Nat) (dd : Option Addr) (sl : Array (Option Value)) :
    Meets (Builtin.«str.__eq__» ⟨[.str b u, .ref l], []⟩) (fun _ R s => s.heap.get? l = some { cls := c, dict := dd, data := .dict es n, slots := sl } ∧ R (.ok (.ret .notImplemented)) s) :=
  .of_wp fun prog w A R s h => by obtain ⟨hp, g, d, tk, os⟩ := s; obtain ⟨hl, h⟩ := h; wp_walk using wpAny_loadPart' hl, wpAny_load hl; exact ⟨_, rfl, h⟩
theorem dict_declines_str (l : Addr) (es : Array DictEntry) (n : Nat) (dd : Option Addr) (sl : Array (Option Value)) (b : Str) (u : Tok) :
    Meets (Builtin.«dict.__eq__» ⟨[.ref l, .str b u], []⟩) (fun _ R s => s.heap.get? l = some { cls := .type "dict", dict := dd, data := .dict es n, slots := sl } ∧ R (.ok (.ret .notImplemented)) s) :=
  .of_wp fun prog w A R s h => by obtain ⟨hp, g, d, tk, os⟩ := s; obtain ⟨hl, h⟩ := h; have f1 := F.sub_str_dict; wp_walk using wpAny_loadPart' hl; exact ⟨_, rfl, h⟩
theorem rcat_str_dict {l : Addr} {o : Obj} {es : Array DictEntry} {n : Nat} (b : Str) (u : Tok) (ho : s.heap.get? l = some o) (hx : o.cls = .type "dict") (hd : o.data = .dict es n) (hu : A.units < cLine) : RcAt A s (.str b u) (.ref l) false := fun prog w E Q h => by
  obtain ⟨cls, dd, data, sl⟩ := o
  simp only at hx hd
  subst hx hd
  exact rc_eq_decline_or (k := false) (typeIs_str s b u) ⟨_, ho, rfl⟩ (by decide) F.sub_dict_str F.slot_str_eq F.slot_dict_eq_refl
    (fun _ hq => call_meets F.slot_str_eq (typeIs_str s b u) F.entry_str_eq (F.args_str_eq_2 _ _) (str_declines_dict b u l (.type "dict") es n dd sl) ⟨ho, hq⟩)
    (fun _ hq => call_meets F.slot_dict_eq_refl ⟨_, ho, rfl⟩ F.entry_dict_eq (F.args_dict_eq_2 _ _) (dict_declines_str l es n dd sl b u) ⟨ho, hq⟩)
    (fun _ hq => wpAny_of_eq (rfl : isSame (.str b u) (.ref l) = pure false) hq) (.inr hu) h
theorem eqat_str_dict {l : Addr} {o : Obj} {es : Array DictEntry} {n : Nat} (b : Str) (u : Tok) (ho : s.heap.get? l = some o) (hx : o.cls = .type "dict") (hd : o.data = .dict es n) (hu : A.units < cLine) : EqAt A s (.str b u) (.ref l) false := fun prog w E Q h => by
  unfold eqBool
  refine wpAny_holding (wpAny_ite_split (fun hab => absurd (eq_of_beq hab) nofun) fun _ => wpAny_bind ?_)
  exact rcat_str_dict b u ho hx hd hu prog w E _ (wpAny_truthy_bool h)
end
/-- what x is, told by which texts it is equal to -/
inductive HitV (K : PySem.W.Frag) (H : Hp) : V → (Str → Bool) → Prop
  | str (a : Str) : HitV K H (.str a) (fun y => decide (y = a))
  | non : HitV K H .non fun _ => false
  | bl (b : Bool) : HitV K H (.bl b) fun _ => false
  | int (i : Int) : HitV K H (.int i) fun _ => false
  | lst {p : Addr} {xs : List V} : SqL K H p xs → HitV K H (.ref p) fun _ => false
  | tup {p : Addr} {xs : List V} : SqT K H p xs → HitV K H (.ref p) fun _ => false
  | dK {p : Addr} {kvs : List (Key × V)} : Rd H p (.dK kvs) → HitV K H (.ref p) fun _ => false
def hitE (hit : Str → Bool) : Value → Bool
  | .str y _ => hit y
  | _ => false
section
variable {X : Cx} {pins : List (Addr × Obj)} {σ : L2.St} {H : Hp} {s : Shared}
theorem dict_obj {p : Addr} {kvs : List (Key × V)} (I : Inv X pins σ H s) (h : Rd H p (.dK kvs)) : ∃ (o : Obj) (es : Array DictEntry) (n : Nat), s.heap.get? p = some o ∧ o.cls = .type "dict" ∧ o.data = .dict es n := by
  have z : ObjOk X.prog X.w H s.heap p (.dK kvs) := by
    rcases h with h | ⟨o, h⟩
    · exact I.hok p _ h
    · exact (I.hok p _ h).2
  obtain ⟨_, _, vs, _, hdo⟩ := z
  obtain ⟨o, es, ep, e1, e2, e3, _⟩ := hdo
  exact ⟨o, es, ep, e1, e2.1, e3⟩
theorem hit_eq {A : Around} {x : V} {v : Value} {hit : Str → Bool} (I : Inv X pins σ H s) (hu : A.units < cLine) (h : HitV X.K H x hit) (r : RelV x v) (y : Str) (t : Tok) : EqAt A s (.str y t) v (hit y) := by
  cases h with
  | str a =>
    obtain ⟨t2, rfl⟩ := r
    have e := EqAt.str_str (A := A) (s := s) y t a t2
    have e2 : (y == a) = decide (y = a) := rfl
    rw [e2] at e
    exact e
  | non =>
    obtain rfl : v = .none := r
    exact EqAt.str_none y t
  | bl b =>
    obtain rfl : v = .bool b := r
    exact EqAt.str_bool y t b
  | int i =>
    obtain ⟨t2, rfl⟩ := r
    exact EqAt.str_int y t i t2
  | lst hs =>
    obtain rfl : v = .ref _ := r
    obtain ⟨its, _, pl, _⟩ := I.list hs
    exact EqAt.str_list y t pl.isList hu
  | tup hs =>
    obtain rfl : v = .ref _ := r
    obtain ⟨its, _, pl, _⟩ := I.tuple hs
    exact EqAt.str_tuple y t pl hu
  | dK hd =>
    obtain rfl : v = .ref _ := r
    obtain ⟨o, es, n, e1, e2, e3⟩ := dict_obj I hd
    exact eqat_str_dict y t e1 e2 e3 hu
theorem hit_any {hit : Str → Bool} : ∀ {us : List Value} {ns : List Str}, Vals (ns.map V.str) us → us.any (hitE hit) = ns.any hit
  | [], [], .nil => rfl
  | u :: us, n :: ns, .cons h r => by
    obtain ⟨t, rfl⟩ := h
    rw [List.any_cons, List.any_cons, hit_any r]
    rfl
theorem hit_mem {A : Around} {x : V} {v : Value} {hit : Str → Bool} (I : Inv X pins σ H s) (hu : A.units < cLine) (h : HitV X.K H x hit) (rx : RelV x v) : ∀ {us : List Value} {ns : List Str}, Vals (ns.map V.str) us → ∀ y ∈ us, EqAt A s y v (hitE hit y)
  | u :: us, n :: ns, .cons r q, y, hy => by
    rcases List.mem_cons.mp hy with rfl | hy
    · obtain ⟨t, rfl⟩ := r
      exact hit_eq I hu h rx n t
    · exact hit_mem I hu h rx q y hy
/-- x in xs | x not in xs -/
def rInT (neg : Bool) (K : PySem.W.Frag) : R2 := fun x y H Q => ∃ (p : Addr) (ns : List Str) (hit : Str → Bool), y = .ref p ∧ (SqL K H p (ns.map V.str) ∨ SqT K H p (ns.map V.str)) ∧ HitV K H x hit ∧ Q (.bl (if neg then !ns.any hit else ns.any hit)) H
theorem op_inT {K : PySem.W.Frag} (hu : X.A.units + 64 < cLine) (hK : X.K = K := by rfl) : OpR X (compareOp .In) (rInT false K) := by
  subst hK
  intro pins s σ H x y v u Q I rx ry h
  obtain ⟨p, ns, hit, rfl, hs, hh, q⟩ := h
  obtain rfl : u = .ref p := ry
  have hu1 : X.A.in1.units < cLine := by
    have : X.A.in1.units = X.A.units + 1 := rfl
    omega
  rcases hs with hs | hs
  · obtain ⟨its, rv, pl, _⟩ := I.list hs
    refine in_listAt (hitE hit) pl.isList (fun y hy => hit_mem I hu1 hh rx rv y (by simpa using hy)) ⟨.bl _, H, I, rfl, ?_⟩
    rw [show its.toArray.any (hitE hit) = its.any (hitE hit) from by simp, hit_any rv]
    exact q
  · obtain ⟨its, rv, pl, _⟩ := I.tuple hs
    refine in_tupleAt (hitE hit) pl (fun y hy => hit_mem I hu1 hh rx rv y (by simpa using hy)) ⟨.bl _, H, I, rfl, ?_⟩
    rw [show its.toArray.any (hitE hit) = its.any (hitE hit) from by simp, hit_any rv]
    exact q
theorem op_notInT {K : PySem.W.Frag} (hu : X.A.units + 64 < cLine) (hK : X.K = K := by rfl) : OpR X (compareOp .NotIn) (rInT true K) := by
  subst hK
  intro pins s σ H x y v u Q I rx ry h
  obtain ⟨p, ns, hit, rfl, hs, hh, q⟩ := h
  obtain rfl : u = .ref p := ry
  have hu1 : X.A.in1.units < cLine := by
    have : X.A.in1.units = X.A.units + 1 := rfl
    omega
  rcases hs with hs | hs
  · obtain ⟨its, rv, pl, _⟩ := I.list hs
    refine notIn_listAt (hitE hit) pl.isList (fun y hy => hit_mem I hu1 hh rx rv y (by simpa using hy)) ⟨.bl _, H, I, rfl, ?_⟩
    rw [show its.toArray.any (hitE hit) = its.any (hitE hit) from by simp, hit_any rv]
    exact q
  · obtain ⟨its, rv, pl, _⟩ := I.tuple hs
    refine notIn_tupleAt (hitE hit) pl (fun y hy => hit_mem I hu1 hh rx rv y (by simpa using hy)) ⟨.bl _, H, I, rfl, ?_⟩
    rw [show its.toArray.any (hitE hit) = its.any (hitE hit) from by simp, hit_any rv]
    exact q
end
theorem any_names {ns : List Str} {r : Str} (h : r ∈ ns) : ns.any (fun y => decide (y = r)) = true := List.any_eq_true.mpr ⟨r, h, decide_eq_true rfl⟩
theorem HitV.same {K : PySem.W.Frag} {H H' : Hp} {x : V} {hit : Str → Bool} (s : Same H H') (h : HitV K H x hit) : HitV K H' x hit := by
  cases h with
  | str a => exact .str a
  | non => exact .non
  | bl b => exact .bl b
  | int i => exact .int i
  | lst e => exact .lst (sqL_at (fun o => s _ o) e)
  | tup e => exact .tup (same_sqT s e)
  | dK e => exact .dK (e.elim (fun e => .inl (s _ _ e)) fun ⟨o, e⟩ => .inr ⟨o, s _ _ e⟩)
end Wd

set_option Elab.async false
set_option linter.all false
set_option maxRecDepth 100000
set_option maxHeartbeats 4000000
/-! [x for x in xs if x not in ys] of texts; lists of texts compared; a stand past a list that changes. -/
namespace Wd
open PySem PySem.Spec PyProof.Rows L2
theorem pair_rising : ∀ (p : Str) (l : List Str), (p :: l).Pairwise leT → risingS p l = true
  | _, [], _ => rfl
  | p, x :: l, h => by
    obtain ⟨h1, h2⟩ := List.pairwise_cons.mp h
    have := ltCps_le.mpr (h1 x List.mem_cons_self)
    simp only [risingS, this, pair_rising x l h2, Bool.not_false, Bool.and_self]
theorem pair_sorted : ∀ {l : List Str}, l.Pairwise leT → sortedS l = true
  | [], _ => rfl
  | p :: l, h => pair_rising p l h
theorem any_memO {a : Str} {bs : List Str} : bs.any (fun y => decide (y = a)) = decide (a ∈ bs) := by
  rw [Bool.eq_iff_iff, List.any_eq_true, decide_eq_true_iff]
  constructor
  · rintro ⟨y, hy, e⟩
    have := of_decide_eq_true e
    rw [← this]
    exact hy
  · exact fun h => ⟨a, h, decide_eq_true rfl⟩
theorem lc_off {K : PySem.W.Frag} {σ : L2.St} {i j e : Nat} {H : Hp} {Q : VK} {l1 l2 : Addr} {xs ys : List Str} (hi : σ[i]? = some (some (.ref l1))) (hj : σ[j]? = some (some (.ref l2))) (ne : j ≠ e) (he : e < σ.length) (e1 : H l1 = some (.lst (xs.map V.str))) (e2 : H l2 = some (.lst (ys.map V.str))) (h : xs.length ≤ 60)
    (q : ∀ D Z, Same H Z → H D = none → Z D = some (.lst ((offL xs ys).map V.str)) → Q (.ref D) Z) : tLc (iList K (tVar i)) (gName e) (tTest (tOp (rInT true K) (tVar e) (tVar j))) (tVar e) [e] σ H Q := by
  refine ⟨.ref l1, hi, l1, rfl, ⟨_, .inl (.inl e1)⟩, fun D nD => ?_⟩
  refine lc_it (walk_list (a := l1) (xs := xs.map V.str)) (fun k Z => Same H Z ∧ Z D = some (.lst ((offL (xs.take k) ys).map V.str))) ⟨same_new nD, upd_same⟩ (fun k Z _ pv => .inl (.inl (pv.1 _ _ e1))) (fun k u Z Z' hk pv hy => ?_) (fun Z pv => ?_)
  · obtain ⟨sZ, z1⟩ := pv
    obtain ⟨rfl, hv⟩ := hy
    rw [List.getElem?_map] at hv
    obtain ⟨nm, hn, rfl⟩ := Option.map_eq_some_iff.mp hv
    have g1 : ((wipe σ [e]).set e (some (V.str nm)))[e]? = some (some (V.str nm)) := by
      show ((σ.set e none).set e (some (V.str nm)))[e]? = _
      rw [List.getElem?_set_self (by rw [List.length_set]; exact he)]
    have g2 : ((wipe σ [e]).set e (some (V.str nm)))[j]? = some (some (.ref l2)) := by
      show ((σ.set e none).set e (some (V.str nm)))[j]? = _
      rw [List.getElem?_set_ne (Ne.symm ne), List.getElem?_set_ne (Ne.symm ne)]
      exact hj
    refine ⟨?_, .str nm, g1, .ref l2, g2, l2, ys, _, rfl, .inl (.inl (.inl (sZ _ _ e2))), .str nm, _, rfl, ?_⟩
    · show ((σ.set e none).set e (some (V.str nm))).set e none = σ.set e none
      rw [List.set_set, List.set_set]
    rw [any_memO]
    have hl : (offL (xs.take k) ys).length ≤ 60 := Nat.le_trans (offL_len _ _) (by rw [List.length_take]; omega)
    have off : offL (xs.take (k + 1)) ys = offL (xs.take k) ys ++ if nm ∈ ys then [] else [nm] := by
      unfold offL
      rw [take_snoc hn, List.filter_append]
      congr 1
      by_cases hin : nm ∈ ys <;> simp [hin]
    rw [off, List.map_append]
    by_cases hin : nm ∈ ys
    · rw [if_pos hin, List.map_nil, List.append_nil, decide_eq_true hin]
      exact iteF ⟨sZ, z1⟩
    · rw [if_neg hin, decide_eq_false hin]
      exact iteT ⟨.str nm, g1, _, z1, by rw [List.length_map, sizeLine_eq]; omega, same_mut sZ nD, upd_same⟩
  · obtain ⟨sZ, z1⟩ := pv
    rw [List.length_map, List.take_length] at z1
    exact q D Z sZ nD z1
theorem dp_strs {K : PySem.W.Frag} {H : Hp} : ∀ xs : List Str, DpAll K H (xs.map V.str) (xs.map PyData.str)
  | [] => .nil
  | x :: xs => .cons (.str x) (dp_strs xs)
theorem shaped_strs {xs : List Str} (h : ∀ s ∈ xs, NameOk s) : SeqAt.shaped (.list (xs.map PyData.str)) = true := shaped_list (lay_strs h) (by rw [depth_strs]; omega)
theorem shaped_tup {xs : List Str} (h : ∀ s ∈ xs, NameOk s) : SeqAt.shaped (.tuple (xs.map PyData.str)) = true := by
  show (PyData.canLay0 _ && decide _) = true
  rw [Bool.and_eq_true]
  refine ⟨by simp only [PyData.canLay0]; exact lay_strs h, decide_eq_true ?_⟩
  have := depth_strs xs
  simp only [PyData.depth]
  omega
theorem ne_strs {K : PySem.W.Frag} {H : Hp} {a b : Addr} {xs : List Str} {Q : VK} (ea : H a = some (.lst (xs.map V.str))) (eb : H b = some (.lst (xs.map V.str))) (h : ∀ s ∈ xs, NameOk s) (q : Q (.bl false) H) : rNeX K (.ref a) (.ref b) H Q := by
  refine .inr ⟨.list (xs.map .str), .list (xs.map .str), .lst (.inl (.inl ea)) (dp_strs xs), .lst (.inl (.inl eb)) (dp_strs xs), shaped_strs h, shaped_strs h, ?_⟩
  rw [show PyData.eqv (.list (xs.map PyData.str)) (.list (xs.map PyData.str)) = true from by simp [PyData.eqv, eqv_strs]]
  exact q
/-- (ajar, shut) != ([], []) -/
theorem ne_none {K : PySem.W.Frag} {H : Hp} {u v la lb ea eb : Addr} {Q : VK} (hu : SqT K H u [.ref la, .ref lb]) (hv : SqT K H v [.ref ea, .ref eb]) (ha : H la = some (.lst [])) (hb : H lb = some (.lst [])) (h1 : H ea = some (.lst [])) (h2 : H eb = some (.lst [])) (q : Q (.bl false) H) : rNeX K (.ref u) (.ref v) H Q := by
  refine .inr ⟨.tuple [.list [], .list []], .tuple [.list [], .list []], .tup hu (.cons (.lst (.inl (.inl ha)) .nil) (.cons (.lst (.inl (.inl hb)) .nil) .nil)), .tup hv (.cons (.lst (.inl (.inl h1)) .nil) (.cons (.lst (.inl (.inl h2)) .nil) .nil)), by decide +kernel, by decide +kernel, ?_⟩
  rw [show PyData.eqv (.tuple [.list [], .list []]) (.tuple [.list [], .list []]) = true from by simp [PyData.eqv, PyData.eqvAll]]
  exact q
theorem sqT_off {K : PySem.W.Frag} {H : Hp} {l : Addr} {zs xs : List V} {o : HO} {a : Addr} (e : H l = some (.lst zs)) (h : SqT K H a xs) : SqT K (upd H l o) a xs := by
  rcases h with (h | ⟨u, h⟩) | h
  · exact .inl (.inl (by rw [upd_ne (fun z => by rw [z, e] at h; cases h)]; exact h))
  · exact .inl (.inr ⟨u, by rw [upd_ne (fun z => by rw [z, e] at h; cases h)]; exact h⟩)
  · exact .inr h
theorem StandAt.off {K : PySem.W.Frag} {H : Hp} {v : V} {t : Nat} {rs ps : List Str} {l : Addr} {zs : List V} {o : HO} (e : H l = some (.lst zs)) (h : StandAt K H v t rs ps) : StandAt K (upd H l o) v t rs ps :=
  h.move (fun _ _ z => sqT_off e z) fun a xs z => z.upd (z.ne e)
theorem eqvAll_strs : ∀ (xs ys : List Str), PyData.eqvAll (xs.map PyData.str) (ys.map PyData.str) = decide (xs = ys)
  | [], [] => rfl
  | [], _ :: _ => rfl
  | _ :: _, [] => rfl
  | x :: xs, y :: ys => by
    rw [List.map_cons, List.map_cons]
    simp only [PyData.eqvAll, PyData.eqv, eqvAll_strs xs ys]
    rw [Bool.eq_iff_iff]
    simp
end Wd

set_option Elab.async false
set_option linter.all false
set_option maxRecDepth 100000
set_option maxHeartbeats 4000000
/-! What a deed touches, as data: what rooms bear behind it. -/
namespace Wd
open PySem PySem.Spec PyProof.Rows L2
theorem addAt_at (g : Str → Int) (r q : Str) (h : Int) : addAt g r h q = g q + if r = q then h else 0 := by
  unfold addAt
  by_cases e : q = r
  · subst e
    simp
  · have : ¬ r = q := fun z => e z.symm
    simp [e, this]
theorem folkW_sum (q : Str) : ∀ (zs : List (WalkH × Str)) (g : Str → Int), folkW none zs g q = g q + (zs.map fun z => if z.2 = q then z.1.heft else 0).sum
  | [], g => by
    show g q = g q + 0
    omega
  | z :: zs, g => by
    have e : folkW none (z :: zs) g = folkW none zs (addAt g z.2 z.1.heft) := rfl
    rw [e, folkW_sum q zs, addAt_at, List.map_cons, List.sum_cons]
    omega
theorem stonesW_sum (wh : Str → Str) (q : Str) : ∀ (zs : List ((Str × Int) × Str)) (g : Str → Int), stonesW none wh zs g q = g q + (zs.map fun z => if wh z.2 = q then z.1.2 else 0).sum
  | [], g => by
    show g q = g q + 0
    omega
  | z :: zs, g => by
    have e : stonesW none wh (z :: zs) g = stonesW none wh zs (addAt g (wh z.2) z.1.2) := rfl
    rw [e, stonesW_sum wh q zs, addAt_at, List.map_cons, List.sum_cons]
    omega
theorem borne_sum (x : HallH) (rs ps : List Str) (q : Str) : borneH x rs ps none q = ((x.walkers.zip rs).map fun z => if z.2 = q then z.1.heft else 0).sum + ((x.stones.zip ps).map fun z => if whereH x rs z.2 = q then z.1.2 else 0).sum := by
  unfold borneH
  rw [stonesW_sum, folkW_sum]
  omega
theorem zip_set_sum {α : Type} (f : α × Str → Int) (b : Str) : ∀ {ws : List α} {rs : List Str} {t : Nat} {w : α} {r : Str}, ws[t]? = some w → rs[t]? = some r → ((ws.zip (rs.set t b)).map f).sum = ((ws.zip rs).map f).sum - f (w, r) + f (w, b)
  | w :: ws, r :: rs, 0, w', r', h1, h2 => by
    cases h1
    cases h2
    simp only [List.set_cons_zero, List.zip_cons_cons, List.map_cons, List.sum_cons]
    omega
  | w :: ws, r :: rs, t + 1, w', r', h1, h2 => by
    have ih := zip_set_sum f b (ws := ws) (rs := rs) (t := t) h1 h2
    simp only [List.set_cons_succ, List.zip_cons_cons, List.map_cons, List.sum_cons]
    omega
theorem whereL_set {b p : Str} : ∀ {ws : List WalkH} {rs : List Str} {t : Nat} {z : WalkH}, (ws.map WalkH.name).Nodup → rs.length = ws.length → ws[t]? = some z → whereL (ws.zip (rs.set t b)) p = if p = z.name then some b else whereL (ws.zip rs) p
  | w :: ws, r :: rs, 0, z, n, l, h => by
    cases h
    simp only [List.set_cons_zero, List.zip_cons_cons, whereL]
    by_cases e : w.name = p
    · rw [if_pos e, if_pos e.symm]
    · rw [if_neg e, if_neg fun c => e c.symm, if_neg e]
  | w :: ws, r :: rs, t + 1, z, n, l, h => by
    rw [List.map_cons] at n
    obtain ⟨n1, n2⟩ := List.nodup_cons.mp n
    have ih := whereL_set (b := b) (p := p) (ws := ws) (rs := rs) (t := t) n2 (by simpa using l) h
    have zin : z.name ∈ ws.map WalkH.name := List.mem_map.mpr ⟨z, List.mem_of_getElem? h, rfl⟩
    simp only [List.set_cons_succ, List.zip_cons_cons, whereL]
    by_cases e : w.name = p
    · rw [if_pos e, if_pos e, if_neg fun c => n1 (by rw [e, c]; exact zin)]
    · rw [if_neg e, if_neg e]
      exact ih
theorem where_set {x : HallH} {rs : List Str} {t : Nat} {z : WalkH} {b p : Str} (n : (x.walkers.map WalkH.name).Nodup) (l : rs.length = x.walkers.length) (h : x.walkers[t]? = some z) : whereH x (rs.set t b) p = if p = z.name then b else whereH x rs p := by
  unfold whereH
  rw [whereL_set n l h]
  by_cases e : p = z.name
  · rw [if_pos e, if_pos e]
    rfl
  · rw [if_neg e, if_neg e]
theorem where_own {x : HallH} {rs : List Str} {t : Nat} {z : WalkH} {r : Str} (n : (x.walkers.map WalkH.name).Nodup) (l : rs.length = x.walkers.length) (h : x.walkers[t]? = some z) (hr : rs[t]? = some r) : whereH x rs z.name = r := by
  have e : (rs.set t r) = rs := by
    apply List.ext_getElem?
    intro i
    by_cases c : t = i
    · subst c
      rw [List.getElem?_set_self (List.getElem?_eq_some_iff.mp hr).1, hr]
    · rw [List.getElem?_set_ne c]
  rw [← e, where_set n l h, if_pos rfl]
theorem where_room {x : HallH} {rs : List Str} {q : Str} (h : q ∉ x.walkers.map WalkH.name) : whereH x rs q = q := by
  unfold whereH
  cases e : whereL (x.walkers.zip rs) q with
  | none => rfl
  | some r =>
    exfalso
    have : ∀ {zs : List (WalkH × Str)}, whereL zs q = some r → ∃ z ∈ zs, z.1.name = q := by
      intro zs
      induction zs with
      | nil => intro h; cases h
      | cons y zs ih =>
        intro h
        unfold whereL at h
        by_cases c : y.1.name = q
        · exact ⟨y, List.mem_cons_self, c⟩
        · rw [if_neg c] at h
          obtain ⟨z, hz, e⟩ := ih h
          exact ⟨z, List.mem_cons_of_mem _ hz, e⟩
    obtain ⟨z, hz, e2⟩ := this e
    exact h (by rw [← e2]; exact List.mem_map.mpr ⟨z.1, (List.of_mem_zip (a := z.1) (b := z.2) hz).1, rfl⟩)
/-- the stones that a walker carries, their hefts -/
def loadL (x : HallH) (ps : List Str) (n : Str) : Int := ((x.stones.zip ps).map fun y => if y.2 = n then y.1.2 else 0).sum
theorem stones_moved (wh wh' : Str → Str) (n r b q : Str) (hn : wh n = r) (hw : ∀ p, wh' p = if p = n then b else wh p) : ∀ zs : List ((Str × Int) × Str), (zs.map fun z => if wh' z.2 = q then z.1.2 else 0).sum =
    (zs.map fun z => if wh z.2 = q then z.1.2 else 0).sum + (if b = q then (zs.map fun y => if y.2 = n then y.1.2 else 0).sum else 0) - (if r = q then (zs.map fun y => if y.2 = n then y.1.2 else 0).sum else 0)
  | [] => by simp
  | z :: zs => by
    have ih := stones_moved wh wh' n r b q hn hw zs
    simp only [List.map_cons, List.sum_cons]
    rw [ih, hw]
    by_cases c : z.2 = n
    · rw [if_pos c, if_pos c, c, hn]
      by_cases c1 : b = q <;> by_cases c2 : r = q <;> simp only [c1, c2, if_true, if_false] <;> omega
    · rw [if_neg c, if_neg c]
      by_cases c1 : b = q <;> by_cases c2 : r = q <;> simp only [c1, c2, if_true, if_false] <;> omega
theorem borne_go {x : HallH} {rs ps : List Str} {t : Nat} {z : WalkH} {r b : Str} (n : (x.walkers.map WalkH.name).Nodup) (l : rs.length = x.walkers.length) (h : x.walkers[t]? = some z) (hr : rs[t]? = some r) (q : Str) :
    borneH x (rs.set t b) ps none q - borneH x rs ps none q = (if b = q then z.heft + loadL x ps z.name else 0) - (if r = q then z.heft + loadL x ps z.name else 0) := by
  rw [borne_sum, borne_sum, zip_set_sum _ b h hr, stones_moved (whereH x rs) (whereH x (rs.set t b)) z.name r b q (where_own n l h hr) (fun p => where_set n l h)]
  show _ - (if r = q then z.heft else 0) + (if b = q then z.heft else 0) + (_ + (if b = q then loadL x ps z.name else 0) - (if r = q then loadL x ps z.name else 0)) - _ = _
  by_cases c1 : b = q <;> by_cases c2 : r = q <;> simp only [c1, c2, if_true, if_false] <;> omega
theorem borne_put {x : HallH} {rs ps : List Str} {j : Nat} {s : Str × Int} {o p : Str} (h : x.stones[j]? = some s) (hp : ps[j]? = some o) (e : whereH x rs p = whereH x rs o) (q : Str) : borneH x rs (ps.set j p) none q = borneH x rs ps none q := by
  rw [borne_sum, borne_sum, zip_set_sum _ p h hp]
  show _ + (_ - (if whereH x rs o = q then s.2 else 0) + (if whereH x rs p = q then s.2 else 0)) = _
  rw [e]
  omega
def unlikeL (xs ys : List Str) : List Nat := (List.range xs.length).filter fun k => decide (xs[k]? ≠ ys[k]?)
theorem unlike_same (xs : List Str) : unlikeL xs xs = [] := by
  unfold unlikeL
  rw [List.filter_eq_nil_iff]
  intro k _
  simp
theorem range_one (t : Nat) : ∀ n, (List.range n).filter (fun k => decide (k = t)) = if t < n then [t] else []
  | 0 => rfl
  | n + 1 => by
    rw [List.range_succ, List.filter_append, range_one t n]
    by_cases h : t < n
    · rw [if_pos h, if_pos (by omega)]
      have : ¬ n = t := by omega
      simp [this]
    · rw [if_neg h]
      by_cases e : n = t
      · subst e
        simp
      · rw [if_neg (by omega)]
        simp [e]
theorem unlike_set {xs : List Str} {t : Nat} {r b : Str} (h : xs[t]? = some r) (ne : b ≠ r) : unlikeL xs (xs.set t b) = [t] := by
  have tl := (List.getElem?_eq_some_iff.mp h).1
  unfold unlikeL
  have e : (List.range xs.length).filter (fun k => decide (xs[k]? ≠ (xs.set t b)[k]?)) = (List.range xs.length).filter fun k => decide (k = t) := by
    refine List.filter_congr fun k _ => ?_
    rw [decide_eq_decide]
    by_cases c : t = k
    · subst c
      rw [List.getElem?_set_self tl, h]
      constructor
      · intro _; rfl
      · intro _ z
        exact ne (Option.some.inj z).symm
    · rw [List.getElem?_set_ne c]
      constructor
      · intro z; exact absurd rfl z
      · intro z; exact absurd z.symm c
  rw [e, range_one, if_pos tl]
theorem dp_intsT {K : PySem.W.Frag} {H : Hp} : ∀ xs : List Int, DpAll K H (xs.map V.int) (xs.map PyData.int)
  | [] => .nil
  | x :: xs => .cons (.int x) (dp_intsT xs)
theorem lay_intsT : ∀ xs : List Int, PyData.canLayAll0 (xs.map PyData.int) = true ∧ PyData.depthAll (xs.map PyData.int) = 0
  | [] => ⟨rfl, by simp [PyData.depthAll]⟩
  | x :: xs => by
    obtain ⟨h1, h2⟩ := lay_intsT xs
    rw [List.map_cons]
    refine ⟨by simp only [PyData.canLayAll0, PyData.canLay0, h1, Bool.and_self], ?_⟩
    simp only [PyData.depthAll, PyData.depth, h2]
    decide
theorem shaped_intsT (xs : List Int) : SeqAt.shaped (.list (xs.map PyData.int)) = true := shaped_list (lay_intsT xs).1 (by rw [(lay_intsT xs).2]; omega)
theorem eqvAll_intsT : ∀ xs : List Int, PyData.eqvAll (xs.map PyData.int) (xs.map PyData.int) = true
  | [] => rfl
  | x :: xs => by
    rw [List.map_cons]
    simp [PyData.eqvAll, PyData.eqv, eqvAll_intsT xs]
theorem eq_intsT {K : PySem.W.Frag} {H : Hp} {a b : Addr} {xs : List Int} {Q : VK} (ea : H a = some (.lst (xs.map V.int))) (eb : H b = some (.lst (xs.map V.int))) (q : Q (.bl true) H) : rEqX K (.ref a) (.ref b) H Q := by
  refine .inr ⟨.list (xs.map .int), .list (xs.map .int), .lst (.inl (.inl ea)) (dp_intsT xs), .lst (.inl (.inl eb)) (dp_intsT xs), shaped_intsT xs, shaped_intsT xs, ?_⟩
  rw [show PyData.eqv (.list (xs.map PyData.int)) (.list (xs.map PyData.int)) = true from by simp [PyData.eqv, eqvAll_intsT]]
  exact q
theorem ne_intsT {K : PySem.W.Frag} {H : Hp} {a b : Addr} {xs : List Int} {Q : VK} (ea : H a = some (.lst (xs.map V.int))) (eb : H b = some (.lst (xs.map V.int))) (q : Q (.bl false) H) : rNeX K (.ref a) (.ref b) H Q := by
  refine .inr ⟨.list (xs.map .int), .list (xs.map .int), .lst (.inl (.inl ea)) (dp_intsT xs), .lst (.inl (.inl eb)) (dp_intsT xs), shaped_intsT xs, shaped_intsT xs, ?_⟩
  rw [show PyData.eqv (.list (xs.map PyData.int)) (.list (xs.map PyData.int)) = true from by simp [PyData.eqv, eqvAll_intsT]]
  exact q
theorem eq_strs {K : PySem.W.Frag} {H : Hp} {a b : Addr} {xs : List Str} {Q : VK} (ea : H a = some (.lst (xs.map V.str))) (eb : H b = some (.lst (xs.map V.str))) (h : ∀ s ∈ xs, NameOk s) (q : Q (.bl true) H) : rEqX K (.ref a) (.ref b) H Q := by
  refine .inr ⟨.list (xs.map .str), .list (xs.map .str), .lst (.inl (.inl ea)) (dp_strs xs), .lst (.inl (.inl eb)) (dp_strs xs), shaped_strs h, shaped_strs h, ?_⟩
  rw [show PyData.eqv (.list (xs.map PyData.str)) (.list (xs.map PyData.str)) = true from by simp [PyData.eqv, eqv_strs]]
  exact q
/-- nought everywhere, then at two places otherwise -/
theorem due_at {xs : List Str} {i j : Nat} {r b : Str} {g : Int} (nd : xs.Nodup) (hi : xs[i]? = some r) (hj : xs[j]? = some b) (ne : r ≠ b) :
    ((List.replicate xs.length (0 : Int)).set i (0 - g)).set j g = xs.map fun q => (if b = q then g else 0) - (if r = q then g else 0) := by
  have il := (List.getElem?_eq_some_iff.mp hi).1
  have jl := (List.getElem?_eq_some_iff.mp hj).1
  apply List.ext_getElem?
  intro k
  rw [List.getElem?_map]
  by_cases kl : k < xs.length
  · have hk := List.getElem?_eq_getElem kl
    generalize xs[k] = q at hk
    rw [hk]
    have iff : ∀ {m : Nat} {y : Str}, xs[m]? = some y → (m = k ↔ y = q) := fun {m y} hm => by
      constructor
      · intro e
        subst e
        rw [hk] at hm
        exact (Option.some.inj hm).symm
      · intro e
        subst e
        rcases Nat.lt_trichotomy m k with h | h | h
        · exact absurd rfl (first_at nd hk h hm)
        · exact h
        · exact absurd rfl (first_at nd hm h hk)
    by_cases c1 : j = k
    · have c1' := (iff hj).mp c1
      subst c1
      have c2 : ¬ r = q := fun z => ne (z.trans c1'.symm)
      rw [List.getElem?_set_self (by rw [List.length_set, List.length_replicate]; exact kl)]
      simp [c1', c2]
    · have c1' : ¬ b = q := fun z => c1 ((iff hj).mpr z)
      rw [List.getElem?_set_ne c1]
      by_cases c2 : i = k
      · have c2' := (iff hi).mp c2
        subst c2
        rw [List.getElem?_set_self (by rw [List.length_replicate]; exact kl)]
        simp [c1', c2']
      · have c2' : ¬ r = q := fun z => c2 ((iff hi).mpr z)
        rw [List.getElem?_set_ne c2, List.getElem?_replicate, if_pos kl]
        simp [c1', c2']
  · rw [List.getElem?_eq_none (by rw [List.length_set, List.length_set, List.length_replicate]; omega), List.getElem?_eq_none (by omega)]
    rfl
theorem load_sum (n : Str) : ∀ zs : List ((Str × Int) × Str), ((zs.filter fun z => decide (z.2 = n)).map fun z => z.1.2).sum = (zs.map fun y => if y.2 = n then y.1.2 else 0).sum
  | [] => rfl
  | z :: zs => by
    rw [List.map_cons, List.sum_cons, ← load_sum n zs]
    by_cases e : z.2 = n
    · rw [List.filter_cons_of_pos (by simp [e]), List.map_cons, List.sum_cons, if_pos e]
    · rw [List.filter_cons_of_neg (by simp [e]), if_neg e]
      omega
theorem why_liftAt {x : HallH} {rs ps : List Str} {z : WalkH} {r s : Str} {j : Nat} (snd : (x.stones.map Prod.fst).Nodup) (pl : ps.length = x.stones.length) (hj : (x.stones.map Prod.fst)[j]? = some s) (hw : whyD x rs ps z r [Str.ofString "lift", s] = none) : ps[j]? = some r := by
  have jl := (List.getElem?_eq_some_iff.mp hj).1
  rw [List.length_map, ← pl] at jl
  have hq := List.getElem?_eq_getElem jl
  generalize ps[j] = pq at hq
  have hp : placeOf x ps s = some pq := place_at snd hj hq
  have lf : ¬ liftS = goS := by decide +kernel
  unfold whyD at hw
  by_cases hb : deedB [Str.ofString "lift", s] = true
  · rw [if_pos hb] at hw
    have hl : whyLift x ps z r s = none := by simpa only [show (Str.ofString "lift" : Str) = liftS from rfl, lf, if_false, if_true] using hw
    unfold whyLift at hl
    rw [hp] at hl
    simp only [] at hl
    split at hl
    · cases hl
    · rename_i e
      rw [hq, Decidable.of_not_not e]
  · rw [if_neg hb] at hw
    cases hw
theorem why_layAt {x : HallH} {rs ps : List Str} {z : WalkH} {r s : Str} {j : Nat} (snd : (x.stones.map Prod.fst).Nodup) (pl : ps.length = x.stones.length) (hj : (x.stones.map Prod.fst)[j]? = some s) (hw : whyD x rs ps z r [Str.ofString "lay", s] = none) : ps[j]? = some z.name := by
  have jl := (List.getElem?_eq_some_iff.mp hj).1
  rw [List.length_map, ← pl] at jl
  have hq := List.getElem?_eq_getElem jl
  generalize ps[j] = pq at hq
  have hp : placeOf x ps s = some pq := place_at snd hj hq
  have lg : ¬ layS = goS := by decide +kernel
  have ll : ¬ layS = liftS := by decide +kernel
  unfold whyD at hw
  by_cases hb : deedB [Str.ofString "lay", s] = true
  · rw [if_pos hb] at hw
    have hl : whyLay x ps z s = none := by simpa only [show (Str.ofString "lay" : Str) = layS from rfl, lg, ll, if_false, if_true] using hw
    unfold whyLay at hl
    rw [hp] at hl
    simp only [] at hl
    split at hl
    · cases hl
    · rename_i e
      rw [hq, Decidable.of_not_not e]
  · rw [if_neg hb] at hw
    cases hw
/-- both rooms that a door joins, as its goer sees them -/
theorem ends_perm {d : DoorH} {r b : Str} (h : farH d r = some b) : [r, b].Perm [d.one, d.other] := by
  unfold farH at h
  split at h
  · rename_i e
    cases h
    rw [e]
  · split at h
    · rename_i e
      cases h
      rw [e.1]
      exact List.Perm.swap _ _ _
    · cases h
theorem far_ne {d : DoorH} {r b : Str} (h : farH d r = some b) (ne : d.one ≠ d.other) : r ≠ b := by
  unfold farH at h
  split at h
  · rename_i e
    cases h
    rw [e]
    exact ne
  · split at h
    · rename_i e
      cases h
      rw [e.1]
      exact ne.symm
    · cases h
theorem flat_names (ns : List Str) : (ns.map V.str).all flatV = true := by simp [flatV]
theorem idx_get {ns : List Str} {j : Nat} {s : Str} (hj : ns[j]? = some s) : (ns.map V.str)[j]? = some (.str s) := by rw [List.getElem?_map, hj]; rfl
theorem idx_eq (s : Str) : eqV (.str s) (.str s) = true := by simp [eqV]
theorem idx_first {ns : List Str} {j : Nat} {s : Str} (nd : ns.Nodup) (hj : ns[j]? = some s) (m : Nat) (z' : V) (hm : m < j) (hz : (ns.map V.str)[m]? = some z') : eqV z' (.str s) = false := by
  rw [List.getElem?_map] at hz
  obtain ⟨w, hw, rfl⟩ := Option.map_eq_some_iff.mp hz
  have := first_at nd hj hm hw
  simp [eqV, this]
theorem idx_names {K : PySem.W.Frag} {H : Hp} {l : Addr} {ns : List Str} {j : Nat} {s : Str} {Q : VK} (el : H l = some (.lst (ns.map V.str))) (nd : ns.Nodup) (hj : ns[j]? = some s) (q : Q (.int (j : Nat)) H) : rIndex K (.ref l) [.str s] H Q := by
  refine ⟨l, _, .str s, j, .str s, rfl, rfl, .inl (.inl el), rfl, by simp [flatV], by rw [List.getElem?_map, hj]; rfl, by simp [eqV], fun m z' hm hz => ?_, q⟩
  rw [List.getElem?_map] at hz
  obtain ⟨w, hw, rfl⟩ := Option.map_eq_some_iff.mp hz
  have := first_at nd hj hm hw
  simp [eqV, this]
theorem ixN_nat {n j : Nat} (h : j < n) : ixN n (j : Int) = some j := by
  unfold ixN
  rw [if_pos (by omega), if_pos (by omega)]
  simp
end Wd

set_option Elab.async false
set_option linter.all false
set_option maxRecDepth 100000
set_option maxHeartbeats 4000000
/-! Small things of any kind, and tuples of them, as data that outlives writes elsewhere. -/
namespace Wd
open PySem PySem.Spec PyProof.Rows L2
def TxtD (s : Str) : Prop := Neat 12 0 (.str s) ∧ PyData.strOk s = true ∧ s.length ≤ 9
theorem txt_name {s : Str} (h : NameOk s) : TxtD s := ⟨(neat_name h).mono (by decide) (Nat.le_refl _), name_ok h, by have := (name_len h).2; omega⟩
inductive Bt (N : Addr → Prop) (K : PySem.W.Frag) (H : Hp) : V → PyData → Prop
  | str {s : Str} (h : TxtD s) : Bt N K H (.str s) (.str s)
  | non : Bt N K H .non .none
  | bl (b : Bool) : Bt N K H (.bl b) (.bool b)
  | zero : Bt N K H (.int 0) (.int 0)
  | tup {u : Addr} {xs : List Str} (e : SqT K H u (xs.map V.str)) (l : xs.length ≤ 2) (h : ∀ s ∈ xs, TxtD s) : Bt N K H (.ref u) (.tuple (xs.map PyData.str))
  | lst {u : Addr} {xs : List Str} (n : N u) (e : H u = some (.lst (xs.map V.str))) (l : xs.length ≤ 2) (h : ∀ s ∈ xs, TxtD s) : Bt N K H (.ref u) (.list (xs.map PyData.str))
  | dct {u : Addr} (n : N u) (e : H u = some (.dK [])) : Bt N K H (.ref u) (.dict [])
inductive BtAll (N : Addr → Prop) (K : PySem.W.Frag) (H : Hp) : List V → List PyData → Prop
  | nil : BtAll N K H [] []
  | cons {v : V} {d : PyData} {vs : List V} {ds : List PyData} (h : Bt N K H v d) (q : BtAll N K H vs ds) : BtAll N K H (v :: vs) (d :: ds)
inductive Bn (N : Addr → Prop) (K : PySem.W.Frag) (H : Hp) : V → PyData → Prop
  | bit {v : V} {d : PyData} (h : Bt N K H v d) : Bn N K H v d
  | tup {u : Addr} {vs : List V} {ds : List PyData} (e : SqT K H u vs) (l : vs.length ≤ 3) (q : BtAll N K H vs ds) : Bn N K H (.ref u) (.tuple ds)
section
variable {N N' : Addr → Prop} {K : PySem.W.Frag} {H H' : Hp}
theorem Bt.move (n : ∀ a, N a → N' a) (t : ∀ a xs, SqT K H a xs → SqT K H' a xs) (s : ∀ a o, N a → H a = some o → H' a = some o) {v : V} {d : PyData} (h : Bt N K H v d) : Bt N' K H' v d := by
  cases h with
  | str h => exact .str h
  | non => exact .non
  | bl b => exact .bl b
  | zero => exact .zero
  | tup e l h => exact .tup (t _ _ e) l h
  | lst m e l h => exact .lst (n _ m) (s _ _ m e) l h
  | dct m e => exact .dct (n _ m) (s _ _ m e)
theorem BtAll.move (n : ∀ a, N a → N' a) (t : ∀ a xs, SqT K H a xs → SqT K H' a xs) (s : ∀ a o, N a → H a = some o → H' a = some o) : ∀ {vs : List V} {ds : List PyData}, BtAll N K H vs ds → BtAll N' K H' vs ds
  | _, _, .nil => .nil
  | _, _, .cons h q => .cons (h.move n t s) (q.move n t s)
theorem Bn.move (n : ∀ a, N a → N' a) (t : ∀ a xs, SqT K H a xs → SqT K H' a xs) (s : ∀ a o, N a → H a = some o → H' a = some o) {v : V} {d : PyData} (h : Bn N K H v d) : Bn N' K H' v d := by
  cases h with
  | bit h => exact .bit (h.move n t s)
  | tup e l q => exact .tup (t _ _ e) l (q.move n t s)
theorem Bt.dq {v : V} {d : PyData} (h : Bt N K H v d) : Dq anyA K H v d := by
  cases h with
  | str h => exact .str _
  | non => exact .non
  | bl b => exact .bl b
  | zero => exact .int 0
  | tup e l h => exact .tup trivial e (DqAll.strs _)
  | lst m e l h => exact .lst trivial (.inl (.inl e)) (DqAll.strs _)
  | dct m e => exact .dct trivial (.inl e) .nil
theorem BtAll.dq : ∀ {vs : List V} {ds : List PyData}, BtAll N K H vs ds → DqAll anyA K H vs ds
  | _, _, .nil => .nil
  | _, _, .cons h q => .cons h.dq q.dq
theorem Bn.dq {v : V} {d : PyData} (h : Bn N K H v d) : Dq anyA K H v d := by
  cases h with
  | bit h => exact h.dq
  | tup e l q => exact .tup trivial e q.dq
theorem Bt.neat {v : V} {d : PyData} (h : Bt N K H v d) : Neat 40 1 d := by
  cases h with
  | str h => exact h.1.mono (by decide) (by decide)
  | non => exact ⟨by decide +kernel, by decide +kernel, by decide +kernel, by decide +kernel⟩
  | bl b => cases b <;> exact ⟨by decide +kernel, by decide +kernel, by decide +kernel, by decide +kernel⟩
  | zero => exact ⟨by decide +kernel, by decide +kernel, by decide +kernel, by decide +kernel⟩
  | tup e l h => exact (neat_tup (w := 12) (dp := 0) (m := 2) (fun d hd => by obtain ⟨s, hs, rfl⟩ := List.mem_map.mp hd; exact (h s hs).1) (by rw [List.length_map]; exact l)).mono (by decide) (by decide)
  | lst m e l h => exact (neat_lst (w := 12) (dp := 0) (m := 2) (fun d hd => by obtain ⟨s, hs, rfl⟩ := List.mem_map.mp hd; exact (h s hs).1) (by rw [List.length_map]; exact l)).mono (by decide) (by decide)
  | dct m e => exact ⟨by decide +kernel, by decide +kernel, by decide +kernel, by decide +kernel⟩
theorem BtAll.neat : ∀ {vs : List V} {ds : List PyData}, BtAll N K H vs ds → ds.length = vs.length ∧ ∀ d ∈ ds, Neat 40 1 d
  | _, _, .nil => ⟨rfl, fun _ h => nomatch h⟩
  | _, _, .cons h q => by
    obtain ⟨a, b⟩ := q.neat
    refine ⟨by rw [List.length_cons, List.length_cons, a], fun d hd => ?_⟩
    rcases List.mem_cons.mp hd with rfl | hd
    · exact h.neat
    · exact b d hd
theorem Bn.neat {v : V} {d : PyData} (h : Bn N K H v d) : Neat 123 2 d := by
  cases h with
  | bit h => exact h.neat.mono (by decide) (by decide)
  | tup e l q =>
    obtain ⟨a, b⟩ := q.neat
    exact neat_tup (w := 40) (dp := 1) (m := 3) b (by rw [a]; exact l)
theorem Bt.hit {v : V} {d : PyData} (h : Bt N K H v d) : ∃ hit, HitV K H v hit ∧ ((∃ s, v = .str s ∧ TxtD s) ∨ ((∀ s, v ≠ .str s) ∧ hit = fun _ => false)) := by
  cases h with
  | str h => exact ⟨_, .str _, .inl ⟨_, rfl, h⟩⟩
  | non => exact ⟨_, .non, .inr ⟨(fun _ z => nomatch z), rfl⟩⟩
  | bl b => exact ⟨_, .bl b, .inr ⟨(fun _ z => nomatch z), rfl⟩⟩
  | zero => exact ⟨_, .int 0, .inr ⟨(fun _ z => nomatch z), rfl⟩⟩
  | tup e l h => exact ⟨_, .tup e, .inr ⟨(fun _ z => nomatch z), rfl⟩⟩
  | lst m e l h => exact ⟨_, .lst (.inl (.inl e)), .inr ⟨(fun _ z => nomatch z), rfl⟩⟩
  | dct m e => exact ⟨_, .dK (.inl e), .inr ⟨(fun _ z => nomatch z), rfl⟩⟩
theorem BtAll.strs : ∀ {xs : List Str}, (∀ s ∈ xs, TxtD s) → BtAll N K H (xs.map V.str) (xs.map PyData.str)
  | [], _ => .nil
  | x :: xs, h => .cons (.str (h x List.mem_cons_self)) (BtAll.strs fun s hs => h s (List.mem_cons_of_mem _ hs))
theorem BtAll.append : ∀ {vs ws : List V} {ds es : List PyData}, BtAll N K H vs ds → BtAll N K H ws es → BtAll N K H (vs ++ ws) (ds ++ es)
  | _, _, _, _, .nil, r => r
  | _, _, _, _, .cons h q, r => .cons h (q.append r)
theorem BtAll.mem : ∀ {vs : List V} {ds : List PyData} {v : V}, BtAll N K H vs ds → v ∈ vs → ∃ d, Bt N K H v d
  | _, _, _, .cons h q, m => by
    rcases List.mem_cons.mp m with rfl | m
    · exact ⟨_, h⟩
    · exact q.mem m
end
end Wd

set_option Elab.async false
set_option linter.all false
set_option maxRecDepth 100000
set_option maxHeartbeats 400000
namespace Wd
open PySem PySem.Spec PyProof.Rows L2
theorem tx_of {s : Str} (h1 : s.cps.all (fun c => decide (c < 1000)) = true) (h2 : s.length ≤ 9) : TxtD s := by
  have h : ∀ c ∈ s.cps.toList, c < 1000 := fun c hc => by
    rw [Array.all_eq_true_iff_forall_mem] at h1
    exact of_decide_eq_true (h1 c (by simpa using hc))
  refine ⟨neat_str (n := 12) (fun c hc => Nat.lt_trans (h c hc) (by decide)) (by omega), ?_, h2⟩
  show s.cps.all (fun c => decide (c < 0x110000)) = true
  rw [Array.all_eq_true_iff_forall_mem]
  exact fun c hc => decide_eq_true (by have := h c (by simpa using hc); omega)
theorem tx_go : TxtD (Str.ofString "go") := tx_of (by decide +kernel) (by decide +kernel)
theorem tx_lift : TxtD (Str.ofString "lift") := tx_of (by decide +kernel) (by decide +kernel)
theorem tx_lay : TxtD (Str.ofString "lay") := tx_of (by decide +kernel) (by decide +kernel)
theorem tx_wait : TxtD (Str.ofString "wait") := tx_of (by decide +kernel) (by decide +kernel)
theorem tx_emp : TxtD (Str.ofString "") := tx_of (by decide +kernel) (by decide +kernel)
theorem tx_big : TxtD (Str.ofString "A") := tx_of (by decide +kernel) (by decide +kernel)
theorem tx_sp : TxtD (Str.ofString "a b") := tx_of (by decide +kernel) (by decide +kernel)
theorem tx_long : TxtD (Str.ofString "abcdefghi") := tx_of (by decide +kernel) (by decide +kernel)
theorem tx_ab : TxtD (Str.ofString "ab") := tx_of (by decide +kernel) (by decide +kernel)
theorem tx_zz : TxtD (Str.ofString "zz") := tx_of (by decide +kernel) (by decide +kernel)
end Wd

set_option Elab.async false
set_option linter.all false
set_option maxRecDepth 100000
set_option maxHeartbeats 1000000
/-! [(word, name) for name in names]: tuples of texts in a list, as data. -/
namespace Wd
open PySem PySem.Spec PyProof.Rows L2
inductive TupAll (K : PySem.W.Frag) (H : Hp) : List V → List (List Str) → Prop
  | nil : TupAll K H [] []
  | cons {a : Addr} {d : List Str} {vs : List V} {ds : List (List Str)} (e : SqT K H a (d.map V.str)) (q : TupAll K H vs ds) : TupAll K H (.ref a :: vs) (d :: ds)
section
variable {K : PySem.W.Frag} {H H' : Hp}
theorem TupAll.move (t : ∀ a xs, SqT K H a xs → SqT K H' a xs) : ∀ {vs : List V} {ds : List (List Str)}, TupAll K H vs ds → TupAll K H' vs ds
  | _, _, .nil => .nil
  | _, _, .cons e q => .cons (t _ _ e) (q.move t)
theorem TupAll.same (s : Same H H') {vs : List V} {ds : List (List Str)} (h : TupAll K H vs ds) : TupAll K H' vs ds := h.move fun _ _ z => same_sqT s z
theorem TupAll.append : ∀ {vs ws : List V} {ds es : List (List Str)}, TupAll K H vs ds → TupAll K H ws es → TupAll K H (vs ++ ws) (ds ++ es)
  | _, _, _, _, .nil, r => r
  | _, _, _, _, .cons e q, r => .cons e (q.append r)
theorem TupAll.length : ∀ {vs : List V} {ds : List (List Str)}, TupAll K H vs ds → vs.length = ds.length
  | _, _, .nil => rfl
  | _, _, .cons _ q => by rw [List.length_cons, List.length_cons, q.length]
theorem TupAll.mem : ∀ {vs : List V} {ds : List (List Str)} {v : V}, TupAll K H vs ds → v ∈ vs → ∃ a d, v = .ref a ∧ d ∈ ds ∧ SqT K H a (d.map V.str)
  | _, _, _, .cons (a := a) (d := d) e q, m => by
    rcases List.mem_cons.mp m with rfl | m
    · exact ⟨a, d, rfl, List.mem_cons_self, e⟩
    · obtain ⟨a, d, g1, g2, g3⟩ := q.mem m
      exact ⟨a, d, g1, List.mem_cons_of_mem _ g2, g3⟩
theorem lc_pairs {σ : L2.St} {i e : Nat} {Q : VK} {nl : Addr} {ns : List Str} {w : Str} (hi : σ[i]? = some (some (.ref nl))) (he : e < σ.length) (el : H nl = some (.lst (ns.map V.str))) (hl : ns.length ≤ 1000)
    (q : ∀ D Z vs, Same H Z → H D = none → Z D = some (.lst vs) → TupAll K Z vs (ns.map fun n => [w, n]) → Q (.ref D) Z) :
    tLc (iList K (tVar i)) (gName e) tYes (tTup (tCons (tC (V.str w)) (tCons (tVar e) tNil))) [e] σ H Q := by
  refine ⟨.ref nl, hi, nl, rfl, ⟨_, .inl (.inl el)⟩, fun D nD => ?_⟩
  refine lc_it (walk_list (a := nl) (xs := ns.map V.str)) (fun k Z => Same H Z ∧ ∃ vs, Z D = some (.lst vs) ∧ TupAll K Z vs ((ns.take k).map fun n => [w, n])) ⟨same_new nD, [], upd_same, .nil⟩ (fun k Z _ pv => .inl (.inl (pv.1 _ _ el))) (fun k u Z Z' hk pv hy => ?_) (fun Z pv => ?_)
  · obtain ⟨sZ, vs, z1, z2⟩ := pv
    obtain ⟨rfl, hv⟩ := hy
    rw [List.getElem?_map] at hv
    obtain ⟨nm, hn, rfl⟩ := Option.map_eq_some_iff.mp hv
    have g1 : ((wipe σ [e]).set e (some (V.str nm)))[e]? = some (some (V.str nm)) := by
      show ((σ.set e none).set e (some (V.str nm)))[e]? = _
      rw [List.getElem?_set_self (by rw [List.length_set]; exact he)]
    refine ⟨?_, yes_if ⟨.str nm, g1, by show 2 ≤ sizeLine; decide, fun x nx => ?_⟩⟩
    · show ((σ.set e none).set e (some (V.str nm))).set e none = σ.set e none
      rw [List.set_set, List.set_set]
    have a1 := same_new nx (o := .tup [.str w, .str nm])
    have ex : (upd Z' x (.tup [.str w, .str nm])) x = some (.tup [.str w, .str nm]) := upd_same
    have z1 := a1 _ _ z1
    have z2 := z2.same a1
    generalize upd Z' x (.tup [.str w, .str nm]) = Y at a1 ex z1 z2
    have sY := sZ.trans a1
    have vl : vs.length ≤ 1000 := by
      rw [z2.length, List.length_map, List.length_take]
      omega
    refine ⟨_, z1, (by rw [sizeLine_eq]; omega), same_mut sY nD, vs ++ [.ref x], upd_same, ?_⟩
    rw [take_snoc hn, List.map_append]
    refine TupAll.move (fun b xs z => sqT_off z1 z) (z2.append (.cons (d := [w, nm]) (.inl (.inl ex)) .nil))
  · obtain ⟨sZ, vs, z1, z2⟩ := pv
    rw [List.length_map, List.take_length] at z2
    exact q D Z vs sZ nD z1 z2
end
end Wd

set_option Elab.async false
set_option linter.all false
set_option maxRecDepth 100000
set_option maxHeartbeats 4000000
/-! Lots of at most six names, and the numbers whose bits they are. -/
namespace Wd
open PySem PySem.Spec PyProof.Rows L2
def bitsN (n : Nat) : List Nat := (List.range 6).filter fun k => decide (n / 2 ^ k % 2 = 1)
def inB (i j : Nat) : Bool := (bitsN i).all fun k => decide (k ∈ bitsN j)
theorem and_in : ∀ i < 64, ∀ j < 64, decide (Builtin.bitAnd (i : Nat) (j : Nat) = (i : Nat)) = inB i j := by decide +kernel
theorem and_in2 : ∀ i < 64, ∀ j < 64, decide (Builtin.bitAnd (i : Nat) (j : Nat) = (j : Nat)) = inB j i := by decide +kernel
theorem bits_high : ∀ k < 6, ∀ n < 64, n < 2 ^ k → bitsN (2 ^ k + n) = bitsN n ++ [k] := by decide +kernel
theorem bits_lt : ∀ m < 7, ∀ n < 64, n < 2 ^ m → ∀ k ∈ bitsN n, k < m := by decide +kernel
def lotS (names : List Str) (n : Nat) : List Str := (bitsN n).map fun k => names.getD k Str.empty
theorem pow_le64 {m : Nat} (h : m ≤ 6) : 2 ^ m ≤ 64 := Nat.pow_le_pow_right (by decide) h
theorem lot_mem {names : List Str} {j k : Nat} (nd : names.Nodup) (hk : k < names.length) (hj : ∀ q ∈ bitsN j, q < names.length) : names.getD k Str.empty ∈ lotS names j ↔ k ∈ bitsN j := by
  constructor
  · intro h
    obtain ⟨q, hq, e⟩ := List.mem_map.mp h
    have hl := hj q hq
    rw [List.getD_eq_getElem?_getD, List.getD_eq_getElem?_getD, List.getElem?_eq_getElem hl, List.getElem?_eq_getElem hk] at e
    have : q = k := (List.getElem?_inj hl nd).mp (by rw [List.getElem?_eq_getElem hl, List.getElem?_eq_getElem hk]; exact congrArg some e)
    rwa [← this]
  · intro h
    exact List.mem_map.mpr ⟨k, h, rfl⟩
theorem lot_in {names : List Str} {m i j : Nat} (nd : names.Nodup) (hm : names.length = m) (h6 : m ≤ 6) (hi : i < 2 ^ m) (hj : j < 2 ^ m) : (lotS names i).all (fun s => decide (s ∈ lotS names j)) = inB i j := by
  have p := pow_le64 h6
  have li := bits_lt m (by omega) i (by omega) hi
  have lj := bits_lt m (by omega) j (by omega) hj
  unfold inB
  rw [Bool.eq_iff_iff, List.all_eq_true, List.all_eq_true]
  constructor
  · intro h k hk
    have := of_decide_eq_true (h _ (List.mem_map.mpr ⟨k, hk, rfl⟩))
    exact decide_eq_true ((lot_mem nd (by rw [hm]; exact li k hk) (by rw [hm]; exact lj)).mp this)
  · intro h s hs
    obtain ⟨k, hk, rfl⟩ := List.mem_map.mp hs
    exact decide_eq_true ((lot_mem nd (by rw [hm]; exact li k hk) (by rw [hm]; exact lj)).mpr (of_decide_eq_true (h k hk)))
theorem lots_grow {names : List Str} {k : Nat} {s : Str} (h6 : k < 6) (hs : names[k]? = some s) : (List.range (2 ^ k)).map (lotS names) ++ ((List.range (2 ^ k)).map (lotS names)).map (· ++ [s]) = (List.range (2 ^ (k + 1))).map (lotS names) := by
  rw [Nat.pow_succ, Nat.mul_two, List.range_add, List.map_append, List.map_map, List.map_map]
  congr 1
  refine List.map_congr_left fun n hn => ?_
  have hn := List.mem_range.mp hn
  have p := pow_le64 (Nat.le_of_lt h6)
  show lotS names n ++ [s] = lotS names (2 ^ k + n)
  unfold lotS
  rw [bits_high k h6 n (by omega) hn, List.map_append]
  show _ = _ ++ [names.getD k Str.empty]
  rw [List.getD_eq_getElem?_getD, hs]
  rfl
/-- whether each lot is above one of the first or beneath one of the second, none both -/
def coverB (m : Nat) (gs bs : List Nat) : Bool := (List.range (2 ^ m)).all fun l => (gs.any fun g => inB g l) != (bs.any fun b => inB l b)
theorem cover_perm {m : Nat} {gs gs' bs bs' : List Nat} (hg : gs.Perm gs') (hb : bs.Perm bs') : coverB m gs bs = coverB m gs' bs' := by
  have a : ∀ f : Nat → Bool, gs.any f = gs'.any f := fun f => by
    rw [Bool.eq_iff_iff, List.any_eq_true, List.any_eq_true]
    exact ⟨fun ⟨x, hx, h⟩ => ⟨x, hg.subset hx, h⟩, fun ⟨x, hx, h⟩ => ⟨x, hg.symm.subset hx, h⟩⟩
  have b : ∀ f : Nat → Bool, bs.any f = bs'.any f := fun f => by
    rw [Bool.eq_iff_iff, List.any_eq_true, List.any_eq_true]
    exact ⟨fun ⟨x, hx, h⟩ => ⟨x, hb.subset hx, h⟩, fun ⟨x, hx, h⟩ => ⟨x, hb.symm.subset hx, h⟩⟩
  unfold coverB
  congr 1
  funext l
  rw [a, b]
theorem strs_inj : ∀ {xs ys : List Str}, xs.map V.str = ys.map V.str → xs = ys
  | [], [], _ => rfl
  | x :: xs, y :: ys, h => by
    rw [List.map_cons, List.map_cons] at h
    injection h with h1 h2
    injection h1 with h1
    rw [h1, strs_inj h2]
  | [], _ :: _, h => by cases h
  | _ :: _, [], h => by cases h
end Wd

set_option Elab.async false
set_option linter.all false
set_option maxRecDepth 100000
set_option maxHeartbeats 4000000
/-! xs[:k] + (y,) + xs[k + 1:] of a tuple of texts: one text is put in the place of another. -/
namespace Wd
open PySem PySem.Spec PyProof.Rows L2
theorem cut_to (xs : List V) (k : Nat) : cutV xs none (some (k : Int)) = xs.take k := by
  unfold cutV
  rw [HT.sIx_nat, HT.sIx_none, List.drop_zero, Nat.sub_zero]
  by_cases h : k ≤ xs.length
  · rw [Nat.min_eq_left h]
  · rw [Nat.min_eq_right (by omega), List.take_length, List.take_of_length_le (by omega)]
theorem cut_from (xs : List V) (k : Nat) : cutV xs (some ((k : Int) + 1)) none = xs.drop (k + 1) := by
  unfold cutV
  rw [show ((k : Int) + 1) = ((k + 1 : Nat) : Int) from by omega, HT.sIx_nat, HT.sIx_none]
  by_cases h : k + 1 ≤ xs.length
  · rw [Nat.min_eq_left h, List.take_of_length_le (by rw [List.length_drop]; omega)]
  · rw [Nat.min_eq_right (by omega), Nat.sub_self, List.take_zero, List.drop_of_length_le (by omega)]
section
variable {K : PySem.W.Frag} {H : Hp} {Q : VK}
theorem slA {a : Addr} {xs : List V} {lo hi : Option Int} (e : SqT K H a xs) (q : ∀ b H', Same H H' → SqT K H' b (cutV xs lo hi) → Q (.ref b) H') : rSlG K (.ref a) lo hi H Q := by
  refine .inr (.inl ⟨a, xs, rfl, e, fun hw => ?_, fun _ p np => q p _ (same_new np) (.inl (.inl upd_same))⟩)
  refine q a H (fun _ _ e => e) ?_
  have : cutV xs lo hi = xs := by
    unfold cutV
    rw [hw.1, hw.2, List.drop_zero, Nat.sub_zero, List.take_length]
  rw [this]
  exact e
theorem catA {a b : Addr} {xs ys : List V} (ea : SqT K H a xs) (eb : SqT K H b ys) (hz : xs.length + ys.length ≤ sizeLine) (q : ∀ c H', Same H H' → SqT K H' c (xs ++ ys) → Q (.ref c) H') : rAddG K (.ref a) (.ref b) H Q := by
  refine .inr ⟨a, b, xs, ys, rfl, rfl, ea, eb, hz, fun h => ?_, fun _ h => ?_, fun _ _ p np => q p _ (same_new np) (.inl (.inl upd_same))⟩
  · exact q b H (fun _ _ e => e) (by rw [h, List.nil_append]; exact eb)
  · exact q a H (fun _ _ e => e) (by rw [h, List.append_nil]; exact ea)
theorem splice {σ : L2.St} {p i : Nat} {te : TE} {tr : Addr} {L : List Str} {k : Nat} {y : Str} (hp : σ[p]? = some (some (.ref tr))) (hi : σ[i]? = some (some (.int (k : Nat)))) (e : SqT K H tr (L.map V.str)) (hk : k < L.length) (hl : L.length ≤ 60)
    (ht : ∀ (H1 : Hp) (Q' : VK), Same H H1 → (∀ H2, Same H1 H2 → Q' (.str y) H2) → te σ H1 Q') (q : ∀ c H', Same H H' → SqT K H' c ((L.set k y).map V.str) → Q (.ref c) H') :
    tOp (rAddG K) (tOp (rAddG K) (tSl (rSlG K) (tVar p) tNoPart (tPart (tVar i))) (tTup (tCons te tNil))) (tSl (rSlG K) (tVar p) (tPart (tOp (rAddG K) (tVar i) (tC (V.int 1)))) tNoPart) σ H Q := by
  refine ⟨.ref tr, hp, .int k, hi, k, rfl, slA e fun b1 H1 s1 e1 => ?_⟩
  rw [cut_to] at e1
  refine ht H1 _ s1 fun H2 s2 => ⟨by show 1 ≤ sizeLine; decide, fun u nu => ?_⟩
  have s3 := same_new nu (o := .tup [.str y])
  have e3 : (upd H2 u (.tup [.str y])) u = some (.tup [.str y]) := upd_same
  generalize upd H2 u (.tup [.str y]) = H3 at s3 e3
  have l1 : ((L.map V.str).take k).length = k := by rw [List.length_take, List.length_map]; omega
  refine catA (same_sqT (s2.trans s3) e1) (.inl (.inl e3)) (by rw [l1, sizeLine_eq]; show k + 1 ≤ _; omega) fun b2 H4 s4 e4 => ?_
  refine ⟨.ref tr, hp, .int k, hi, _, rfl, slA (same_sqT (((s1.trans s2).trans s3).trans s4) e) fun b3 H5 s5 e5 => ?_⟩
  rw [cut_from] at e5
  refine catA (same_sqT s5 e4) e5 (by rw [List.length_append, l1, List.length_drop, List.length_map, sizeLine_eq]; show k + 1 + _ ≤ _; omega) fun c H6 s6 e6 => ?_
  refine q c H6 (((((s1.trans s2).trans s3).trans s4).trans s5).trans s6) ?_
  rw [List.set_eq_take_append_cons_drop, if_pos hk, List.map_append, List.map_cons, List.map_take, List.map_drop]
  rw [List.append_assoc] at e6
  exact e6
theorem spliceV {σ : L2.St} {p i : Nat} {te : TE} {tr : Addr} {L : List V} {k : Nat} {y : V} (hp : σ[p]? = some (some (.ref tr))) (hi : σ[i]? = some (some (.int (k : Nat)))) (e : SqT K H tr L) (hk : k < L.length) (hl : L.length ≤ 60)
    (ht : ∀ (H1 : Hp) (Q' : VK), Same H H1 → (∀ H2, Same H1 H2 → Q' y H2) → te σ H1 Q') (q : ∀ c H', Same H H' → SqT K H' c (L.take k ++ ([y] ++ L.drop (k + 1))) → Q (.ref c) H') :
    tOp (rAddG K) (tOp (rAddG K) (tSl (rSlG K) (tVar p) tNoPart (tPart (tVar i))) (tTup (tCons te tNil))) (tSl (rSlG K) (tVar p) (tPart (tOp (rAddG K) (tVar i) (tC (V.int 1)))) tNoPart) σ H Q := by
  refine ⟨.ref tr, hp, .int k, hi, k, rfl, slA e fun b1 H1 s1 e1 => ?_⟩
  rw [cut_to] at e1
  refine ht H1 _ s1 fun H2 s2 => ⟨by show 1 ≤ sizeLine; decide, fun u nu => ?_⟩
  have s3 := same_new nu (o := .tup [y])
  have e3 : (upd H2 u (.tup [y])) u = some (.tup [y]) := upd_same
  generalize upd H2 u (.tup [y]) = H3 at s3 e3
  have l1 : (L.take k).length = k := by rw [List.length_take]; omega
  refine catA (same_sqT (s2.trans s3) e1) (.inl (.inl e3)) (by rw [l1, sizeLine_eq]; show k + 1 ≤ _; omega) fun b2 H4 s4 e4 => ?_
  refine ⟨.ref tr, hp, .int k, hi, _, rfl, slA (same_sqT (((s1.trans s2).trans s3).trans s4) e) fun b3 H5 s5 e5 => ?_⟩
  rw [cut_from] at e5
  refine catA (same_sqT s5 e4) e5 (by rw [List.length_append, l1, List.length_drop, sizeLine_eq]; show k + 1 + _ ≤ _; omega) fun c H6 s6 e6 => ?_
  refine q c H6 (((((s1.trans s2).trans s3).trans s4).trans s5).trans s6) ?_
  rw [List.append_assoc] at e6
  exact e6
theorem cutout {σ : L2.St} {p i : Nat} {tr : Addr} {L : List V} {k : Nat} (hp : σ[p]? = some (some (.ref tr))) (hi : σ[i]? = some (some (.int (k : Nat)))) (e : SqT K H tr L) (hk : k < L.length) (hl : L.length ≤ 60)
    (q : ∀ c H', Same H H' → SqT K H' c (L.take k ++ L.drop (k + 1)) → Q (.ref c) H') :
    tOp (rAddG K) (tSl (rSlG K) (tVar p) tNoPart (tPart (tVar i))) (tSl (rSlG K) (tVar p) (tPart (tOp (rAddG K) (tVar i) (tC (V.int 1)))) tNoPart) σ H Q := by
  refine ⟨.ref tr, hp, .int k, hi, k, rfl, slA e fun b1 H1 s1 e1 => ?_⟩
  rw [cut_to] at e1
  refine ⟨.ref tr, hp, .int k, hi, _, rfl, slA (same_sqT s1 e) fun b3 H5 s5 e5 => ?_⟩
  rw [cut_from] at e5
  exact catA (same_sqT s5 e1) e5 (by rw [List.length_take, List.length_drop, sizeLine_eq]; omega) fun c H6 s6 e6 => q c H6 ((s1.trans s5).trans s6) e6
end
end Wd

set_option Elab.async false
set_option linter.all false
set_option maxRecDepth 100000
set_option maxHeartbeats 4000000
/-! enumerate of a tuple; of what is a list or a tuple. -/
namespace Wd
open PySem PySem.Spec PyProof.Rows L2 RZ Builtin
abbrev en1 (h : Heap) (a : Addr) : Heap := h.push { cls := .type "tuple_iterator", data := .fields #[.ref a, .int 0 0] }
abbrev en2 (h : Heap) (a : Addr) : Heap := (en1 h a).push { cls := .type "enumerate", data := .fields #[.none, .bool false, .ref h.objs.size, rawInt 0, .none, .none] }
theorem meets_enT (a : Addr) (ys : Array Value) :
    Meets (Builtin.«enumerate.__new__» ⟨[.type "enumerate", .ref a], []⟩) (fun _ R z => z.heap.IsTuple a ys ∧ R (.ok (.ret (.ref (en1 z.heap a).objs.size))) { z with heap := en2 z.heap a }) :=
  .of_wp fun prog w A R z h => by
    obtain ⟨g0, gn, df, tk, os⟩ := z; obtain ⟨tb, h⟩ := h
    have hsub := sub_enumerate
    have tb' : Heap.IsTuple (Shared.heap ⟨g0, gn, df, tk, os⟩) a ys := tb
    wp_walk using wpAny_pyIter_tuple tb'
    refine wpAny_stack_any fun st => wpAny_pure ?_
    split
    · rename_i c _ _ _ _ _
      cases (c == Value.type "enumerate")
      · wp_walk using wpAny_pyIter_tuple tb'
        exact ⟨_, rfl, h⟩
      · wp_walk using wpAny_pyIter_tuple tb'
        exact ⟨_, rfl, h⟩
    · wp_walk using wpAny_pyIter_tuple tb'
      exact ⟨_, rfl, h⟩
section
variable {prog : Program} {w : World} {A : Around} {E : Value → Shared → Prop} {z0 : Shared}
theorem call_enT {a : Addr} {ys : Array Value} {Q : Value → Shared → Prop} (tb : z0.heap.IsTuple a ys)
    (q : ∀ h', IsEnum h' (z0.heap.objs.size + 1) z0.heap.objs.size 0 .none → h'.IsTupleIter z0.heap.objs.size a 0 → h'.objs.size = z0.heap.objs.size + 2 → (∀ c o, z0.heap.get? c = some o → h'.get? c = some o) → Q (.ref (z0.heap.objs.size + 1)) { z0 with heap := h' }) :
    wpAny (model prog w) A (call (.type "enumerate") [.ref a]) Q E z0 := by
  refine callType_new F.called_enumerate (by decide) (F.typeCall_enumerate_1 _) (F.newCall_enumerate_1 _) (fun obj => F.args_object_init_2 obj _) F.entry_enumerate_new (meets_enT a ys) ⟨tb, ?_⟩
  have n1 : (en1 z0.heap a).objs.size = z0.heap.objs.size + 1 := Heap.size_push ..
  have n2 : (en2 z0.heap a).objs.size = z0.heap.objs.size + 2 := by rw [Heap.size_push, n1]
  have e2 : (en2 z0.heap a).get? (en1 z0.heap a).objs.size = some _ := Heap.get?_push_size _ rfl
  have e1 : (en2 z0.heap a).get? z0.heap.objs.size = some _ := Heap.get?_push_of_some _ (Heap.get?_push_size _ rfl)
  show _ ∧ _
  rw [n1] at e2 ⊢
  exact ⟨⟨_, e2, rfl⟩, q _ e2 ⟨_, e1, rfl, rfl⟩ n2 fun c o x => Heap.get?_push_of_some _ (Heap.get?_push_of_some _ x)⟩
end
/-- the tuple at a, each item in a new pair -/
def IteT (K : PySem.W.Frag) (a : Addr) : It :=
  ⟨fun i H => ∃ (xs : List V) (x : V), SqT K H a xs ∧ xs[i]? = some x, fun i H v H' => ∃ T x, v = .ref T ∧ H T = none ∧ H' = upd H T (.tup [.int (i : Nat), x]) ∧ ∀ xs, SqT K H a xs → xs[i]? = some x, fun i H => ∃ xs : List V, SqT K H a xs ∧ xs.length = i⟩
theorem turn_enT {P : Program} {w : World} {K : PySem.W.Frag} {elts : List Expr} {kk : Nat} {tpos : Pos} {a z i1 : Addr} (d1 : z ≠ i1) (d2 : z ≠ a) (d3 : a ≠ i1) :
    Turn P w K (.Tuple elts kk tpos) (IteT K a) [z, i1] z (fun i h => (∃ old, IsEnum h z i1 ((i : Nat) : Int) old) ∧ h.IsTupleIter i1 a i) where
  mem := by simp
  obj := fun i h q c hc => by
    obtain ⟨⟨old, q1⟩, ⟨o1, e1, _, t1⟩⟩ := q
    simp only [List.mem_cons, List.not_mem_nil, or_false] at hc
    rcases hc with rfl | rfl
    · exact ⟨_, q1, fun v t => nomatch t⟩
    · exact ⟨o1, e1, fun v t => by rw [t1] at t; cases t⟩
  keep := fun i h h' q k => by
    obtain ⟨⟨old, q1⟩, q2⟩ := q
    exact ⟨⟨old, k z (by simp) _ q1⟩, q2.at fun o t => k i1 (by simp) o t⟩
  item := by
    intro X hP hw hK hc i pins s0 σ H E I hf q hg
    subst hP hw hK
    obtain ⟨⟨old, q1⟩, q2⟩ := q
    obtain ⟨xs, x, hqx, hx⟩ := hg
    obtain ⟨vs, rv, p2, _⟩ := I.tuple hqx
    obtain ⟨u, hu, ru⟩ := rv.get hx
    have zl : z < s0.heap.objs.size := Heap.lt_size q1
    have hA : X.A.in1.handled = none := I.ok.hd hc
    refine wpAny_pyNext_enum_itemD (draws_tup hA i1 a d3 vs.toArray) q1 ⟨q2, p2⟩ (by
      have := (List.getElem?_eq_some_iff.mp hu).1; simpa using this) d1 (by simp [d1, d2]) fun x1 h1 tk g1 g2 g3 g4 g5 hk => ?_
    have e1 : x1 = u := by
      have t : vs[i]? = some x1 := by simpa using g1
      rw [hu] at t
      exact (Option.some.inj t).symm
    subst e1
    refine ⟨_, rfl, wpAny_letOwnedTupleGo_enum (s := { s0 with heap := h1, toks := tk + 1 }) g2 fun h2 z2 sb => ?_⟩
    have t2 : h2.get? s0.heap.objs.size = some { cls := .type "tuple", data := .seq #[.int i tk, x1] } := (sb.2 _ (Nat.ne_of_gt zl)).trans g4
    have new : ObjOk X.prog X.w (upd H s0.heap.objs.size (.tup [.int (i : Nat), x])) h2 s0.heap.objs.size (.tup [.int (i : Nat), x]) :=
      ⟨by show 2 ≤ sizeLine; decide, [.int i tk, x1], .cons ⟨_, rfl⟩ (.cons ru .nil), ⟨_, t2, rfl, _, rfl⟩⟩
    have I1 : Inv X pins σ (upd H s0.heap.objs.size (.tup [.int (i : Nat), x])) { s0 with heap := h2, toks := tk + 1 } :=
      I.turnedNew (ch := [z, i1]) (fun c o hb t => (sb.2 c (fun t' => hb (by simp [t']))).trans (hk c o (fun t' => hb (by simp [t'])) (fun t' => hb (by simp [t'])) t)) hf (Nat.le_refl _) new
    refine ⟨.ref s0.heap.objs.size, _, I1, rfl, ⟨_, x, rfl, I.hok.fresh (Nat.le_refl _), rfl, fun l hl => by rw [I.tuple_inj hl hqx]; exact hx⟩, ⟨⟨x1, ?_⟩, ?_⟩, fun c hcm => ?_⟩
    · have e2 : ((i + 1 : Nat) : Int) = (i : Int) + 1 := by omega
      rw [e2]
      exact z2
    · exact g3.1.at fun o t => (sb.2 _ (Ne.symm d1)).trans t
    · have hlt : c < s0.heap.objs.size := by
        simp only [List.mem_cons, List.not_mem_nil, or_false] at hcm
        rcases hcm with rfl | rfl
        · exact zl
        · obtain ⟨_, t, _⟩ := q2; exact Heap.lt_size t
      rw [upd_ne (Nat.ne_of_lt hlt)]
      exact (hf c hcm).1
  done := by
    intro X hP hw hK hc i pins s0 σ H E I hf q hg
    subst hP hw hK
    obtain ⟨⟨old, q1⟩, q2⟩ := q
    obtain ⟨xs, hqx, hl⟩ := hg
    obtain ⟨vs, rv, p2, _⟩ := I.tuple hqx
    have l2 := rv.length
    have hA : X.A.in1.handled = none := I.ok.hd hc
    obtain ⟨f0, f1, f2, f3, f4, f5⟩ := hf i1 (by simp)
    refine wpAny_pyNext_enum_endD (draws_tup hA i1 a d3 vs.toArray) q1 ⟨?_, p2⟩ fun h1 eb => ⟨rfl, I.turned (t' := s0.toks) (fun b o hb t => eb b o hb t) f0 f1 f3 f4 f5⟩
    have e : vs.toArray.size = i := by rw [List.size_toArray]; omega
    rw [e]
    exact q2
  self := fun A i s0 Q E q h => wpAny_pyIter_enum q.1.choose_spec h
theorem walk_enT {K : PySem.W.Frag} {a : Addr} {xs : List V} : Walk (IteT K a) xs.length (fun H => SqT K H a xs) (YPair (fun i => some (.int (i : Nat))) (fun i => xs[i]?)) := by
  refine ⟨fun i _ hi q => ⟨xs, xs[i], q, by simp [hi]⟩, fun _ q => ⟨xs, q, rfl⟩, fun i H v H' _ q y => ?_⟩
  obtain ⟨T, x, h1, h2, h3, h4⟩ := y
  exact ⟨T, .int (i : Nat), x, h1, h2, h3, rfl, h4 xs q⟩
/-- a list, or a tuple -/
def SqB (K : PySem.W.Frag) (b : Bool) (H : Hp) (a : Addr) (xs : List V) : Prop := match b with
  | true => SqL K H a xs
  | false => SqT K H a xs
theorem SqB.of {K : PySem.W.Frag} {H : Hp} {a : Addr} {xs : List V} (h : SqL K H a xs ∨ SqT K H a xs) : ∃ b, SqB K b H a xs := h.elim (fun z => ⟨true, z⟩) fun z => ⟨false, z⟩
theorem SqB.or {K : PySem.W.Frag} {b : Bool} {H : Hp} {a : Addr} {xs : List V} (h : SqB K b H a xs) : SqL K H a xs ∨ SqT K H a xs := match b, h with
  | true, z => .inl z
  | false, z => .inr z
theorem SqB.same {K : PySem.W.Frag} {b : Bool} {H H' : Hp} {a : Addr} {xs : List V} (s : Same H H') (h : SqB K b H a xs) : SqB K b H' a xs := match b, h with
  | true, z => sqL_at (fun o => s _ o) z
  | false, z => same_sqT s z
/-- enumerate of what is a list or a tuple -/
def iEnumS (K : PySem.W.Frag) (ta : TA) : TI := fun σ H R => ta σ H fun vs H1 => ∃ a xs b, vs = [.ref a] ∧ SqB K b H1 a xs ∧
  ∀ (J : It) (G : Hp → Prop), Walk J xs.length G (YPair (fun i => some (.int (i : Nat))) (fun i => xs[i]?)) → (∀ H', SqB K b H' a xs → G H') → R J H1
theorem pi_enumS {X : Cx} {K : PySem.W.Frag} {e : Expr} {ta : TA} {p pos tpos : Pos} {elts : List Expr} {kk : Nat} (hg : Gl X "enumerate") (hm : X.mg "enumerate" = none) (ha : PA X [e] ta) (hK : X.K = K := by rfl) (hs : starEach [e] X.env = [(false, eval e X.env)] := by rfl) :
    PI X (.Tuple elts kk tpos) (.Call (.Name "enumerate" p) [e] [] pos) (iEnumS K ta) := by
  subst hK
  refine ⟨fun pins z0 σ H R I h => ?_⟩
  refine Call_ (ld_blt I hg hm boot_enumerate (PyProof.Rows.callWith_type1 (thn (ha.run pos pins z0 σ H _ I h) fun us z1 ⟨vs, H1, I1, r1, q1⟩ => ?_) hs rfl))
  obtain ⟨a, xs, b, ex, hq, q⟩ := q1
  subst ex
  cases r1 with
  | cons r rr =>
    cases rr
    cases r
    match b, hq, q with
    | true, hq, q =>
      replace hq : SqL X.K H1 a xs := hq
      obtain ⟨its, rv, p', hz⟩ := I1.list hq
      refine call_enumerate_list p'.isList fun h' he hit hsz hk => wpAny_pyIter_enum he ?_
      have I2 : Inv X pins σ H1 { z1 with heap := h' } := I1.kept (t' := z1.toks) hk
      refine ⟨z1.heap.objs.size + 1, [z1.heap.objs.size + 1, z1.heap.objs.size], _, _, H1, rfl, I2, turn_enum a (z1.heap.objs.size + 1) z1.heap.objs.size, ⟨⟨.none, he⟩, hit, Nat.succ_ne_self _⟩, fun c hc => ?_, q _ _ walk_enum fun H' k => k⟩
      have hle : z1.heap.objs.size ≤ c := by
        simp only [List.mem_cons, List.not_mem_nil, or_false] at hc
        rcases hc with rfl | rfl
        · exact Nat.le_add_right _ _
        · exact Nat.le_refl _
      exact I1.fpOk hle (I1.hok.fresh hle)
    | false, hq, q =>
      replace hq : SqT X.K H1 a xs := hq
      obtain ⟨its, rv, p', _⟩ := I1.tuple hq
      obtain ⟨o2, ho2, _⟩ := id p'
      have al : a < z1.heap.objs.size := Heap.lt_size ho2
      refine call_enT (show z1.heap.IsTuple a its.toArray from p') fun h' he hit hsz hk => wpAny_pyIter_enum he ?_
      have I2 : Inv X pins σ H1 { z1 with heap := h' } := I1.kept (t' := z1.toks) hk
      refine ⟨z1.heap.objs.size + 1, [z1.heap.objs.size + 1, z1.heap.objs.size], _, _, H1, rfl, I2, turn_enT (a := a) (Nat.succ_ne_self _) (Nat.ne_of_gt (Nat.lt_succ_of_lt al)) (Nat.ne_of_lt al), ⟨⟨.none, he⟩, hit⟩, fun c hc => ?_, q _ _ walk_enT fun H' k => k⟩
      have hle : z1.heap.objs.size ≤ c := by
        simp only [List.mem_cons, List.not_mem_nil, or_false] at hc
        rcases hc with rfl | rfl
        · exact Nat.le_add_right _ _
        · exact Nat.le_refl _
      exact I1.fpOk hle (I1.hok.fresh hle)
end Wd
namespace Wd
open PySem PySem.Spec PyProof.Rows L2
/-- a walk over what is a list or a tuple -/
def iSeqS (K : PySem.W.Frag) (te : TE) : TI := fun σ H R => te σ H fun x H1 => ∃ a xs b, x = .ref a ∧ SqB K b H1 a xs ∧ ∀ (J : It) (G : Hp → Prop), Walk J xs.length G (YAt xs) → (∀ H', SqB K b H' a xs → G H') → R J H1
theorem pi_seqS {X : Cx} {K : PySem.W.Frag} {tg e : Expr} {te : TE} (he : PE X e te) (hK : X.K = K := by rfl) : PI X tg e (iSeqS K te) := by
  subst hK
  refine ⟨fun pins s σ H R I q => thn (he.run pins s σ H _ I q) fun v s1 ⟨x, H1, I1, r1, q1⟩ => ?_⟩
  obtain ⟨a, xs, b, ex, hq, q1⟩ := q1
  subst ex
  cases r1
  match b, hq, q1 with
  | true, hq, q1 => exact it_list I1 hq (q1 _ _ walk_list fun H' k => k)
  | false, hq, q1 => exact it_tup I1 hq (q1 _ _ walk_tup fun H' k => k)
end Wd

set_option Elab.async false
set_option linter.all false
set_option maxRecDepth 100000
set_option maxHeartbeats 4000000
/-! (..) == ('wait',) of a tuple whose first thing is of any kind. -/
namespace Wd
open PySem PySem.Spec PyProof.Rows L2 PySem.SeqAt
section
variable {A : Around} {s : Shared}
theorem rcat_dict_text {l : Addr} {o : Obj} {es : Array DictEntry} {n : Nat} (z : Str) (u : Tok) (ho : s.heap.get? l = some o) (hx : o.cls = .type "dict") (hd : o.data = .dict es n) (room : A.units < cLine) : RcAt A s (.ref l) (.str z u) false := fun prog w E Q h => by
  obtain ⟨cls, dd, data, sl⟩ := o
  simp only at hx hd
  subst hx hd
  exact rc_eq_decline_or (k := false) ⟨_, ho, rfl⟩ (typeIs_str s z u) (by decide) F.sub_str_dict F.slot_dict_eq F.slot_str_eq_refl
    (fun _ g => call_meets F.slot_dict_eq ⟨_, ho, rfl⟩ F.entry_dict_eq (F.args_dict_eq_2 _ _) (dict_declines_str l es n dd sl z u) ⟨ho, g⟩)
    (fun _ g => call_meets F.slot_str_eq_refl (typeIs_str s z u) F.entry_str_eq (F.args_str_eq_2 _ _) (str_declines_dict z u l (.type "dict") es n dd sl) ⟨ho, g⟩)
    (fun _ g => wpAny_of_eq (rfl : isSame (.ref l) (.str z u) = pure false) g) (.inr room) h
theorem eqat_dict_text {l : Addr} {o : Obj} {es : Array DictEntry} {n : Nat} (z : Str) (u : Tok) (ho : s.heap.get? l = some o) (hx : o.cls = .type "dict") (hd : o.data = .dict es n) (room : A.units < cLine) : EqAt A s (.ref l) (.str z u) false := fun prog w E Q h => by
  unfold eqBool
  refine wpAny_holding (wpAny_ite_split (fun hab => absurd (eq_of_beq hab) nofun) fun _ => wpAny_bind ?_)
  exact rcat_dict_text z u ho hx hd room prog w E _ (wpAny_truthy_bool h)
end
section
variable {X : Cx} {pins : List (Addr × Obj)} {σ : L2.St} {H : Hp} {s : Shared}
theorem hit_eqL {A : Around} {x : V} {v : Value} {hit : Str → Bool} (I : Inv X pins σ H s) (room : A.units < cLine) (h : HitV X.K H x hit) (r : RelV x v) (y : Str) (t : Tok) : EqAt A s v (.str y t) (hit y) := by
  cases h with
  | str a =>
    obtain ⟨t2, rfl⟩ := r
    have e := EqAt.str_str (A := A) (s := s) a t2 y t
    have e2 : (a == y) = decide (y = a) := by
      rw [Bool.eq_iff_iff, decide_eq_true_iff, beq_iff_eq]
      exact eq_comm
    rw [e2] at e
    exact e
  | non =>
    obtain rfl : v = .none := r
    exact EqAt.none_str y t
  | bl b =>
    obtain rfl : v = .bool b := r
    exact EqAt.bool_str b y t
  | int i =>
    obtain ⟨t2, rfl⟩ := r
    exact EqAt.int_str i t2 y t
  | lst hs =>
    obtain rfl : v = .ref _ := r
    obtain ⟨its, _, pl, _⟩ := I.list hs
    exact EqAt.list_str y t pl.isList room
  | tup hs =>
    obtain rfl : v = .ref _ := r
    obtain ⟨its, _, pl, _⟩ := I.tuple hs
    exact EqAt.tuple_str y t pl room
  | dK hd =>
    obtain rfl : v = .ref _ := r
    obtain ⟨o, es, n, e1, e2, e3⟩ := dict_obj I hd
    exact eqat_dict_text y t e1 e2 e3 room
/-- a tuple whose first thing is of any kind against a tuple of one text -/
def rEqW (K : PySem.W.Frag) : R2 := fun x y H Q => ∃ (a b : Addr) (xs : List V) (z : Str), x = .ref a ∧ y = .ref b ∧ SqT K H a xs ∧ SqT K H b [.str z] ∧
  ((xs.length ≠ 1 ∧ (∀ v, xs[0]? = some v → ∃ hit, HitV K H v hit) ∧ Q (.bl false) H) ∨ ∃ v hit, xs = [v] ∧ HitV K H v hit ∧ Q (.bl (hit z)) H)
theorem op_eqW {K : PySem.W.Frag} (hu : X.A.units + 64 < cLine) (hK : X.K = K := by rfl) : OpR X (compareOp .Eq) (rEqW K) := by
  subst hK
  intro pins s σ H x y v u Q I rx ry h
  obtain ⟨a, b, xs, z, rfl, rfl, ha, hb, h⟩ := h
  obtain rfl : v = .ref a := rx
  obtain rfl : u = .ref b := ry
  obtain ⟨its, r1, p1, _⟩ := I.tuple ha
  obtain ⟨its2, r2, p2, _⟩ := I.tuple hb
  have room : X.A.in1.units < cLine := by
    have : X.A.in1.units = X.A.units + 1 := rfl
    omega
  obtain ⟨w2, rfl, ⟨t2, rfl⟩⟩ : ∃ w2, its2 = [w2] ∧ RelV (.str z) w2 := by
    cases r2 with
    | cons r q =>
      cases q
      exact ⟨_, rfl, r⟩
  have go : ∀ (k : Bool), (∀ v0 u0, xs[0]? = some v0 → its[0]? = some u0 → RelV v0 u0 → EqAt X.A.in1 s u0 (.str z t2) k) → Q (.bl ((List.range (min its.length 1)).all (fun _ => k) && its.length == 1)) H → wpAny (model X.prog X.w) X.A (compareOp .Eq (.ref a) (.ref b)) (EP X pins σ Q) X.xe s := fun k hk q => by
    refine eq_tupleAt (e := fun _ => k) p1 p2 (by omega) (fun j j1 j2 => ?_) ⟨.bl _, H, I, rfl, ?_⟩
    · have j0 : j = 0 := by
        have : j < 1 := by simpa using j2
        omega
      subst j0
      have l1 : 0 < its.length := by simpa using j1
      have lx : 0 < xs.length := by rw [r1.length]; exact l1
      obtain ⟨u0, hu0, rr⟩ := r1.get (List.getElem?_eq_getElem lx)
      have e1 : its.toArray[0] = u0 := by
        have := List.getElem?_eq_getElem l1
        rw [hu0] at this
        simpa using (Option.some.inj this).symm
      have e2 : (#[Value.str z t2] : Array Value)[0] = .str z t2 := rfl
      have := hk xs[0] u0 (List.getElem?_eq_getElem lx) hu0 rr
      rw [← e1] at this
      exact this
    · have es : its.toArray.size = its.length := List.size_toArray
      show Q (.bl ((List.range (min its.toArray.size 1)).all (fun _ => k) && its.toArray.size == 1)) H
      rw [es]
      exact q
  rcases h with ⟨hn, hv, q⟩ | ⟨v0, hit, rfl, hv, q⟩
  · have hl : (its.length == 1) = false := by
      rw [← r1.length]
      exact beq_false_of_ne hn
    cases hx : xs[0]? with
    | none =>
      refine go false (fun v1 u1 h1 => by rw [hx] at h1; cases h1) ?_
      rw [hl, Bool.and_false]
      exact q
    | some v1 =>
      obtain ⟨hit, hh⟩ := hv v1 hx
      refine go (hit z) (fun v2 u2 h2 _ rr => ?_) (by rw [hl, Bool.and_false]; exact q)
      rw [hx] at h2
      cases h2
      exact hit_eqL I room hh rr z t2
  · refine go (hit z) (fun v2 u2 h2 _ rr => ?_) ?_
    · cases h2
      exact hit_eqL I room hv rr z t2
    · have : its.length = 1 := by rw [← r1.length]; rfl
      rw [this]
      show Q (.bl ((List.range 1).all (fun _ => hit z) && (1 == 1))) H
      have e : ((List.range 1).all (fun _ => hit z) && ((1 : Nat) == 1)) = hit z := by
        cases hit z <;> rfl
      rw [e]
      exact q
end
def rEqWX (K : PySem.W.Frag) : R2 := fun x y H Q => rEqX K x y H Q ∨ rEqW K x y H Q
theorem op_eqWX {X : Cx} {K : PySem.W.Frag} (hu : X.A.units + 64 < cLine) (hK : X.K = K := by rfl) : OpR X (compareOp .Eq) (rEqWX K) := by
  subst hK
  exact (op_eqX hu).or (op_eqW hu)
end Wd

set_option Elab.async false
set_option linter.all false
set_option maxRecDepth 100000
set_option maxHeartbeats 4000000
/-! i not in range(lo, hi). -/
namespace Wd
open PySem PySem.Spec PyProof.Rows L2 PySem.SeqAt
section
variable {X : Cx}
theorem op_notIn_rng : OpR X (compareOp .NotIn) (fun x y H Q => ∃ i a lo hi, x = V.int i ∧ y = V.ref a ∧ H a = some (.rng lo hi) ∧ Q (.bl (!decide (lo ≤ i ∧ i < hi))) H) := by
  intro pins s σ H x y v u Q I rx ry h
  obtain ⟨i, a, lo, hi, rfl, rfl, ha, q⟩ := h
  obtain ⟨k, rfl⟩ := rx
  obtain rfl : u = Value.ref a := ry
  obtain ⟨t1, t2, t3, ho⟩ := I.hok a _ ha
  show wpAny _ _ (do return Value.bool (!(← contains (Value.ref a) (Value.int i k)))) _ _ s
  refine wpAny_bind (wpAny_contains_slot (T := "range") ⟨_, ho, rfl⟩ F.slot_range_contains (call_meets F.slot_range_contains ⟨_, ho, rfl⟩ F.entry_range_contains (F.args_range_contains_2 _ _) (q_contains a lo hi i t1 t2 t3 k)
    ⟨ho, wpAny_truthy_bool (wpAny_pure ⟨.bl _, H, I, rfl, ?_⟩)⟩))
  rw [place1]
  exact q
/-- a tuple of anything against the empty one -/
def rEq0 (K : PySem.W.Frag) : R2 := fun x y H Q => ∃ (a b : Addr) (xs : List V), x = .ref a ∧ y = .ref b ∧ SqT K H a xs ∧ SqT K H b [] ∧ Q (.bl (xs.length == 0)) H
theorem op_eq0 {K : PySem.W.Frag} (hu : X.A.units + 64 < cLine) (hK : X.K = K := by rfl) : OpR X (compareOp .Eq) (rEq0 K) := by
  subst hK
  intro pins s σ H x y v u Q I rx ry h
  obtain ⟨a, b, xs, rfl, rfl, ha, hb, q⟩ := h
  obtain rfl : v = .ref a := rx
  obtain rfl : u = .ref b := ry
  obtain ⟨its, r1, p1, _⟩ := I.tuple ha
  obtain ⟨its2, r2, p2, _⟩ := I.tuple hb
  obtain rfl : its2 = [] := by cases r2; rfl
  refine eq_tupleAt (e := fun _ => true) p1 p2 (by omega) (fun j j1 j2 => absurd j2 (Nat.not_lt_zero _)) ⟨.bl _, H, I, rfl, ?_⟩
  have es : its.toArray.size = its.length := List.size_toArray
  show Q (.bl ((List.range (min its.toArray.size 0)).all (fun _ => true) && its.toArray.size == 0)) H
  rw [es, Nat.min_zero, ← r1.length]
  exact q
end
end Wd

set_option Elab.async false
set_option linter.all false
set_option maxRecDepth 100000
set_option maxHeartbeats 4000000
namespace Wd
open PySem PySem.Spec PyProof.Rows L2
abbrev s_all_lots : Stmt := topS 1
theorem sc_all_lots : FnScope ["names", "found", "name", "lot"] ["names"] (C8.fnScope s_all_lots) := ⟨rfl, rfl, rfl, by decide +kernel, rfl, by decide +kernel, by decide +kernel⟩
abbrev s_is_within : Stmt := topS 2
theorem sc_is_within : FnScope ["lot", "other", "name"] ["lot", "other"] (C8.fnScope s_is_within) := ⟨rfl, rfl, rfl, by decide +kernel, rfl, by decide +kernel, by decide +kernel⟩
abbrev s_covers : Stmt := topS 3
theorem sc_covers : FnScope ["names", "does", "fails", "lot", "is_done", "one"] ["names", "does", "fails"] (C8.fnScope s_covers) := ⟨rfl, rfl, rfl, by decide +kernel, rfl, by decide +kernel, by decide +kernel⟩
section
variable {P : Program} {w : World} {K : PySem.W.Frag} {mg : Str → Option Value} {base : Heap}
def spAllLots (K : PySem.W.Frag) : Sp := fun vs H Q _ => ∃ (a : Addr) (xs ns : List Str) (m : Nat), vs = [.ref a] ∧ (SqL K H a (xs.map V.str) ∨ SqT K H a (xs.map V.str)) ∧ xs.Perm ns ∧ sortedS ns = true ∧ ns.length = m ∧ m ≤ 6 ∧
  ∀ l vs H', Same H H' → H l = none → H' l = some (.lst vs) → TupAll K H' vs ((List.range (2 ^ m)).map (lotS ns)) → Q (.ref l) H'
theorem tupAt {K : PySem.W.Frag} {H : Hp} : ∀ {vs : List V} {ds : List (List Str)} {i : Nat} {v : V}, TupAll K H vs ds → vs[i]? = some v → ∃ a d, v = .ref a ∧ ds[i]? = some d ∧ SqT K H a (d.map V.str)
  | _, _, 0, _, .cons (a := a) (d := d) e q, m => by cases m; exact ⟨a, d, rfl, rfl, e⟩
  | _, _, i + 1, _, .cons e q, m => by
    obtain ⟨a, d, h1, h2, h3⟩ := tupAt (i := i) q (by simpa using m)
    exact ⟨a, d, h1, by simpa using h2, h3⟩
theorem lotS_len {ns : List Str} {n : Nat} : (lotS ns n).length ≤ 6 := by
  unfold lotS bitsN
  rw [List.length_map]
  exact Nat.le_trans (List.length_filter_le _ _) (by rw [List.length_range]; exact Nat.le_refl _)
theorem c_allLots {c : CA} (T : Txt P w K mg base c) {f : Addr} {fd : FuncData} (F : C8.Def K mg "all_lots" s_all_lots f fd) (b : Binds K fd ["names"] []) : C8.Cal P w K mg base 1 "all_lots" (spAllLots K) [] := by
  refine C8.cal0 F b .nil sc_all_lots (fun vs H Q E h => ?_) (fun cdv A outer s H vs Q E hr h => ?_)
  · obtain ⟨a, xs, ns, m, rfl, _⟩ := h
    rfl
  · obtain ⟨a, xs, ns, m, rfl, ea, pm, so, lm, h6, q⟩ := h
    have hu := hu_of hr
    have hu6 := hu64 hr
    refine ⟨_, (C8.pss_cut (ps_set (i := 1) sc_all_lots.nd rfl (.inl rfl) (pe_lst (pa_cons (pe_tup pa_nil) pa_nil)))
  (pss_cons (ps_for PassesOwn.never rfl (pi_listK (K := K) (pe_callB (cr_sortG) (by rfl) T.b_sorted bt_sorted (pa_cons (pv 0) pa_nil))) (pg_name (i := 2) sc_all_lots.nd rfl (.inr rfl))
    (pss_one (ps_set (i := 1) sc_all_lots.nd rfl (.inl rfl) (pe_op (op_addG (K := K)) (pv 1) (pe_lc (own := [("lot", 3)]) rfl sc_all_lots.nd (pi_listK (K := K) (pv 1)) (blkOk_by (by kernel_rfl)) (fun _ _ _ _ _ => (pg_name (i := 3) sc_all_lots.nd rfl (.inl rfl))) (fun _ _ _ _ _ => pts_nil)
      (fun _ _ _ _ _ => (pe_op (op_addG (K := K)) (pv 3) (pe_tup (pa_cons (pv 2) pa_nil)))))))))
  (pss_one (ps_ret (pv 1))))), ?_⟩
    have al : xs.length = ns.length := pm.length_eq
    refine ⟨fun σ Z => ∃ fl u : Addr, σ = [some (.ref a), some (.ref fl), none, none] ∧ Same H Z ∧ H fl = none ∧ Z fl = some (.lst [.ref u]) ∧ SqT K Z u [], ?_, ?_⟩
    · refine ⟨by show 0 ≤ sizeLine; decide, fun u nu => ⟨by show 1 ≤ sizeLine; decide, fun fl nf => ?_⟩⟩
      have s1 := same_new nu (o := .tup [])
      have s2 := same_new nf (o := .lst [.ref u])
      exact ⟨fl, u, rfl, s1.trans s2, s1.free nf, upd_same, same_sqT s2 (.inl (.inl upd_same))⟩
    rintro σ1 G1 ⟨fl, u, rfl, s1, nfl, ef, eu⟩
    refine ⟨.ref a, rfl, a, xs, rfl, ea.imp (fun e => sqL_at (fun o => s1 _ o) e) fun e => same_sqT s1 e, by omega, fun ys p pm2 so2 np => ?_⟩
    have ey : ys = ns := sort_texts so2 so (pm2.trans pm)
    subst ey
    have s2 := same_new np (o := .lst (ys.map V.str))
    have ep : (upd G1 p (.lst (ys.map V.str))) p = some (.lst (ys.map V.str)) := upd_same
    have ef := s2 _ _ ef
    have eu := same_sqT s2 eu
    have s2 := s1.trans s2
    generalize upd G1 p (.lst (ys.map V.str)) = G2 at s2 ep ef eu
    refine ⟨p, rfl, ⟨_, .inl (.inl ep)⟩, ?_⟩
    refine for_list (a := p) (xs := ys.map V.str) (fun k σ Z => ∃ (fl : Addr) (vs : List V) (d2 d3 : Option V), σ = [some (.ref a), some (.ref fl), d2, d3] ∧ Same H Z ∧ Z p = some (.lst (ys.map V.str)) ∧ H fl = none ∧ Z fl = some (.lst vs) ∧ TupAll K Z vs ((List.range (2 ^ k)).map (lotS ys))) ⟨fl, [.ref u], _, _, rfl, s2, ep, nfl, ef, .cons (d := []) eu .nil⟩ (fun k σ Z _ pv => ?_) (fun k y σ Z hk pv => ?_) (fun σ Z pv => ?_)
    · obtain ⟨_, _, _, _, _, _, e, _⟩ := pv
      exact .inl (.inl e)
    · obtain ⟨fl, vs, d2, d3, rfl, sZ, eP, nf, ef, ta⟩ := pv
      rw [List.getElem?_map] at hk
      obtain ⟨nm, hn, rfl⟩ := Option.map_eq_some_iff.mp hk
      have hk6 : k < 6 := by have := (List.getElem?_eq_some_iff.mp hn).1; omega
      have p6 := pow_le64 (Nat.le_of_lt hk6)
      have lv : vs.length = 2 ^ k := by rw [ta.length, List.length_map, List.length_range]
      have gr := lots_grow hk6 hn
      have d6 : ∀ d ∈ (List.range (2 ^ k)).map (lotS ys), d.length ≤ 6 := fun d hd => by
        obtain ⟨n, _, rfl⟩ := List.mem_map.mp hd
        exact lotS_len
      generalize (List.range (2 ^ k)).map (lotS ys) = dl at ta gr d6
      have ldl : vs.length = dl.length := ta.length
      refine ⟨.ref fl, rfl, .ref fl, rfl, fl, rfl, ⟨_, .inl (.inl ef)⟩, fun D nD => ?_⟩
      refine lc_it (walk_list (a := fl) (xs := vs)) (fun i Y => Same Z Y ∧ ∃ ws, Y D = some (.lst ws) ∧ TupAll K Y ws ((dl.take i).map (· ++ [nm]))) ⟨same_new nD, [], upd_same, .nil⟩ (fun i Y _ pv => .inl (.inl (pv.1 _ _ ef))) (fun i y Y Y' hi pv hy => ?_) (fun Y pv => ?_)
      · obtain ⟨rfl, hv⟩ := hy
        obtain ⟨sY, ws, z1, z2⟩ := pv
        obtain ⟨uu, d, rfl, hd, eu⟩ := tupAt (ta.same sY) hv
        refine ⟨rfl, yes_if ⟨.ref uu, by kernel_rfl, .str nm, by kernel_rfl, by show 1 ≤ sizeLine; decide, fun u1 n1 => ?_⟩⟩
        have s3 := same_new n1 (o := .tup [.str nm])
        have e1 : SqT K (upd Y' u1 (.tup [.str nm])) u1 [.str nm] := .inl (.inl upd_same)
        have eu := same_sqT s3 eu
        have z1 := s3 _ _ z1
        have z2 := z2.same s3
        have sY := sY.trans s3
        generalize upd Y' u1 (.tup [.str nm]) = Y1 at e1 eu z1 z2 sY
        refine catA eu e1 ?_ fun c0 Y2 s4 ec => ?_
        · rw [List.length_map, sizeLine_eq]
          have := d6 d (List.mem_of_getElem? hd)
          show d.length + 1 ≤ _
          omega
        have lw : ws.length ≤ 64 := by rw [z2.length, List.length_map, List.length_take]; omega
        have z1 := s4 _ _ z1
        refine ⟨_, z1, by rw [sizeLine_eq]; omega, same_mut (sY.trans s4) nD, ws ++ [.ref c0], upd_same, ?_⟩
        rw [take_snoc hd, List.map_append]
        refine TupAll.move (fun b xs z => sqT_off z1 z) ((z2.same s4).append (.cons (d := d ++ [nm]) ?_ .nil))
        rw [List.map_append]
        exact ec
      · obtain ⟨sY, ws, z1, z2⟩ := pv
        rw [ldl, List.take_length] at z2
        have lw : ws.length ≤ 64 := by rw [z2.length, List.length_map]; omega
        have ef := sY _ _ ef
        refine .inl ⟨fl, D, vs, ws, rfl, rfl, ef, z1, by rw [sizeLine_eq]; omega, fun cl nc => ?_⟩
        have s3 := sY.trans (same_new nc (o := .lst (vs ++ ws)))
        refine ⟨cl, vs ++ ws, _, _, rfl, sZ.trans s3, s3 _ _ eP, sZ.free (sY.free nc), upd_same, ?_⟩
        rw [← gr]
        exact (ta.same s3).append (z2.same (same_new nc))
    · obtain ⟨fl, vs, d2, d3, rfl, sZ, eP, nf, ef, ta⟩ := pv
      rw [List.length_map, lm] at ta
      exact ⟨.ref fl, rfl, q fl vs Z sZ nf ef ta⟩
def spWithin (K : PySem.W.Frag) : Sp := fun vs H Q _ => ∃ (a b : Addr) (xs ys : List Str), vs = [.ref a, .ref b] ∧ SqT K H a (xs.map V.str) ∧ SqT K H b (ys.map V.str) ∧ xs.length ≤ 60 ∧ ∀ H', Same H H' → Q (.bl (xs.all fun s => decide (s ∈ ys))) H'
theorem c_within {c : CA} (T : Txt P w K mg base c) (hAll : mg "all" = none) {f : Addr} {fd : FuncData} (F : C8.Def K mg "is_within" s_is_within f fd) (b : Binds K fd ["lot", "other"] []) : C8.Cal P w K mg base 1 "is_within" (spWithin K) [] := by
  refine C8.cal0 F b .nil sc_is_within (fun vs H Q E h => ?_) (fun cdv A outer s H vs Q E hr h => ?_)
  · obtain ⟨a, b, xs, ys, rfl, _⟩ := h
    rfl
  · obtain ⟨a, b, xs, ys, rfl, ea, eb, h60, q⟩ := h
    have hu := hu_of hr
    have hu6 := hu64 hr
    refine ⟨_, (pss_one (ps_ret (pe_callB (cr_all rfl) (by rfl) hAll (by rfl) (pa_cons (pe_lc (own := [("name", 2)]) rfl sc_is_within.nd (pi_tupK (K := K) (pv 0)) (blkOk_by (by kernel_rfl)) (fun _ _ _ _ _ => (pg_name (i := 2) sc_is_within.nd rfl (.inl rfl))) (fun _ _ _ _ _ => pts_nil)
      (fun _ _ _ _ _ => (pe_cmpR (op_inT (K := K) hu6) (pv 2) (pv 1) (by rfl)))) pa_nil)))), ?_⟩
    refine ⟨.ref a, rfl, a, rfl, ⟨_, ea⟩, fun D nD => ?_⟩
    refine lc_it (walk_tup (K := K) (a := a) (xs := xs.map V.str)) (fun k Z => Same H Z ∧ Z D = some (.lst (((xs.take k).map fun s => decide (s ∈ ys)).map V.bl))) ⟨same_new nD, upd_same⟩ (fun k Z _ pv => same_sqT pv.1 ea) (fun k u Z Z' hk pv hy => ?_) (fun Z pv => ?_)
    · obtain ⟨sZ, z1⟩ := pv
      obtain ⟨rfl, hv⟩ := hy
      rw [List.getElem?_map] at hv
      obtain ⟨nm, hn, rfl⟩ := Option.map_eq_some_iff.mp hv
      rw [take_snoc hn, List.map_append, List.map_append]
      have e : (ys.any fun y => decide (y = nm)) = decide (nm ∈ ys) := by
        rw [Bool.eq_iff_iff, List.any_eq_true, decide_eq_true_iff]
        exact ⟨fun ⟨y, hy, e⟩ => by rw [← of_decide_eq_true e]; exact hy, fun h => ⟨nm, h, decide_eq_true rfl⟩⟩
      refine ⟨rfl, yes_if ⟨.str nm, by kernel_rfl, .ref b, by kernel_rfl, b, ys, _, rfl, .inr (same_sqT sZ eb), .str nm, ?_⟩⟩
      rw [if_neg Bool.false_ne_true, e]
      exact ⟨_, z1, by rw [List.length_map, List.length_map, List.length_take, sizeLine_eq]; omega, same_mut sZ nD, upd_same⟩
    · obtain ⟨sZ, z1⟩ := pv
      rw [List.length_map, List.take_length] at z1
      refine ⟨D, _, rfl, .inl (.inl z1), ?_⟩
      rw [List.all_map]
      exact q Z sZ
def spCovers (K : PySem.W.Frag) : Sp := fun vs H Q _ => ∃ (a dl fl : Addr) (xs ns : List Str) (m : Nat) (dvs fvs : List V) (gs bs : List Nat), vs = [.ref a, .ref dl, .ref fl] ∧ (SqL K H a (xs.map V.str) ∨ SqT K H a (xs.map V.str)) ∧ xs.Perm ns ∧ sortedS ns = true ∧ ns.Nodup ∧ ns.length = m ∧ m ≤ 6 ∧
  H dl = some (.lst dvs) ∧ TupAll K H dvs (gs.map (lotS ns)) ∧ (∀ g ∈ gs, g < 2 ^ m) ∧ gs.length ≤ 100 ∧ H fl = some (.lst fvs) ∧ TupAll K H fvs (bs.map (lotS ns)) ∧ (∀ g ∈ bs, g < 2 ^ m) ∧ bs.length ≤ 100 ∧ ∀ H', Same H H' → Q (.bl (coverB m gs bs)) H'
theorem c_covers {c : CA} (T : Txt P w K mg base c) (hAny : mg "any" = none) (call_lots : C8.Cal P w K mg base 1 "all_lots" (spAllLots K) []) (cis_within : C8.Cal P w K mg base 1 "is_within" (spWithin K) []) {f : Addr} {fd : FuncData} (F : C8.Def K mg "covers" s_covers f fd) (b : Binds K fd ["names", "does", "fails"] []) : C8.Cal P w K mg base 2 "covers" (spCovers K) [] := by
  refine C8.cal0 F b .nil sc_covers (fun vs H Q E h => ?_) (fun cdv A outer s H vs Q E hr h => ?_)
  · obtain ⟨a, dl, fl, xs, ns, m, dvs, fvs, gs, bs, rfl, _⟩ := h
    rfl
  · obtain ⟨a, dl, fl, xs, ns, m, dvs, fvs, gs, bs, rfl, ea, pm, so, nd, lm, h6, ed, td, hg, lg, ef, tf, hb, lb, q⟩ := h
    have hu := hu_of hr
    have hu6 := hu64 hr
    refine ⟨_, (pss_cons (ps_for PassesOwn.never rfl (pi_listK (K := K) (C8.pe_c call_lots hr (by decide) (by rfl) (pa_cons (pv 0) pa_nil))) (pg_name (i := 3) sc_covers.nd rfl (.inr rfl))
    (C8.pss_cut (ps_set (i := 4) sc_covers.nd rfl (.inl rfl) (pe_callB (cr_any rfl) (by rfl) hAny (by rfl) (pa_cons (pe_lc (own := [("one", 5)]) rfl sc_covers.nd (pi_listK (K := K) (pv 1)) (blkOk_by (by kernel_rfl)) (fun _ _ _ _ _ => (pg_name (i := 5) sc_covers.nd rfl (.inl rfl))) (fun _ _ _ _ _ => pts_nil)
      (fun _ _ _ _ _ => (C8.pe_c cis_within hr (by decide) (by rfl) (pa_cons (pv 5) (pa_cons (pv 3) pa_nil))))) pa_nil)))
  (pss_one (ps_if (pt_cmpR (op_eqX (K := K) hu6) (pv 4) (pe_callB (cr_any rfl) (by rfl) hAny (by rfl) (pa_cons (pe_lc (own := [("one", 5)]) rfl sc_covers.nd (pi_listK (K := K) (pv 2)) (blkOk_by (by kernel_rfl)) (fun _ _ _ _ _ => (pg_name (i := 5) sc_covers.nd rfl (.inl rfl))) (fun _ _ _ _ _ => pts_nil)
      (fun _ _ _ _ _ => (C8.pe_c cis_within hr (by decide) (by rfl) (pa_cons (pv 3) (pa_cons (pv 5) pa_nil))))) pa_nil)) (nomark _)) (pss_one (ps_ret pe_bl)) pss_nil))))
  (pss_one (ps_ret pe_bl))), ?_⟩
    refine ⟨.ref a, rfl, ?_⟩
    refine ⟨a, xs, ns, m, rfl, ea, pm, so, lm, h6, fun l vs G1 s1 nl el ta => ?_⟩
    have ed := s1 _ _ ed
    have ef := s1 _ _ ef
    have td := td.same s1
    have tf := tf.same s1
    refine ⟨l, rfl, ⟨_, .inl (.inl el)⟩, ?_⟩
    have lv : vs.length = 2 ^ m := by rw [ta.length, List.length_map, List.length_range]
    refine for_list (a := l) (xs := vs) (fun k σ Z => (∀ i, i < k → ((gs.any fun g => inB g i) != (bs.any fun b => inB i b)) = true) ∧ ∃ d3 d4 d5 : Option V, σ = [some (.ref a), some (.ref dl), some (.ref fl), d3, d4, d5] ∧ Same G1 Z) ⟨fun i hi => absurd hi (Nat.not_lt_zero _), _, _, _, rfl, fun _ _ e => e⟩ (fun k σ Z _ pv => ?_) (fun k y σ Z hk pv => ?_) (fun σ Z pv => ?_)
    · obtain ⟨_, _, _, _, _, sZ⟩ := pv
      exact .inl (.inl (sZ _ _ el))
    · obtain ⟨all, d3, d4, d5, rfl, sZ⟩ := pv
      obtain ⟨u, d, rfl, hd, eu⟩ := tupAt (ta.same sZ) hk
      have hkm : k < 2 ^ m := by
        have := (List.getElem?_eq_some_iff.mp hk).1
        omega
      have ek : d = lotS ns k := by
        rw [List.getElem?_map, List.getElem?_range hkm] at hd
        exact (Option.some.inj hd).symm
      subst ek
      have inn : ∀ {i j : Nat}, i < 2 ^ m → j < 2 ^ m → (lotS ns i).all (fun s => decide (s ∈ lotS ns j)) = inB i j := fun hi hj => lot_in nd lm h6 hi hj
      refine ⟨fun σ Y => ∃ d5 : Option V, σ = [some (.ref a), some (.ref dl), some (.ref fl), some (.ref u), some (.bl (gs.any fun g => inB g k)), d5] ∧ Same Z Y, ?_, ?_⟩
      · refine ⟨.ref dl, rfl, dl, rfl, ⟨_, .inl (.inl (sZ _ _ ed))⟩, fun D nD => ?_⟩
        refine lc_it (walk_list (a := dl) (xs := dvs)) (fun i Y => Same Z Y ∧ Y D = some (.lst (((gs.take i).map fun g => inB g k).map V.bl))) ⟨same_new nD, upd_same⟩ (fun i Y _ pv => .inl (.inl (pv.1 _ _ (sZ _ _ ed)))) (fun i y Y Y' hi pv hy => ?_) (fun Y pv => ?_)
        · obtain ⟨rfl, hv⟩ := hy
          obtain ⟨sY, z1⟩ := pv
          obtain ⟨v1, d, rfl, hd1, e1⟩ := tupAt (td.same (sZ.trans sY)) hv
          rw [List.getElem?_map] at hd1
          obtain ⟨g, hg1, rfl⟩ := Option.map_eq_some_iff.mp hd1
          rw [take_snoc hg1, List.map_append, List.map_append]
          refine ⟨rfl, yes_if ⟨.ref v1, by kernel_rfl, .ref u, by kernel_rfl, ?_⟩⟩
          refine ⟨v1, u, _, _, rfl, e1, same_sqT sY eu, Nat.le_trans lotS_len (by decide), fun Y2 s2 => ?_⟩
          rw [inn (hg g (List.mem_of_getElem? hg1)) hkm]
          exact ⟨_, s2 _ _ z1, by rw [List.length_map, List.length_map, List.length_take, sizeLine_eq]; omega, same_mut (sY.trans s2) nD, upd_same⟩
        · obtain ⟨sY, z1⟩ := pv
          rw [td.length, List.length_map, List.take_length] at z1
          refine ⟨D, _, rfl, .inl (.inl z1), ?_⟩
          rw [List.any_map]
          exact ⟨_, rfl, sY⟩
      rintro σ2 G2 ⟨d5, rfl, s2⟩
      refine ⟨.bl (gs.any fun g => inB g k), rfl, .ref fl, rfl, fl, rfl, ⟨_, .inl (.inl (s2 _ _ (sZ _ _ ef)))⟩, fun D nD => ?_⟩
      refine lc_it (walk_list (a := fl) (xs := fvs)) (fun i Y => Same G2 Y ∧ Y D = some (.lst (((bs.take i).map fun b => inB k b).map V.bl))) ⟨same_new nD, upd_same⟩ (fun i Y _ pv => .inl (.inl (pv.1 _ _ (s2 _ _ (sZ _ _ ef))))) (fun i y Y Y' hi pv hy => ?_) (fun Y pv => ?_)
      · obtain ⟨rfl, hv⟩ := hy
        obtain ⟨sY, z1⟩ := pv
        obtain ⟨v1, d, rfl, hd1, e1⟩ := tupAt (tf.same (sZ.trans (s2.trans sY))) hv
        rw [List.getElem?_map] at hd1
        obtain ⟨g, hg1, rfl⟩ := Option.map_eq_some_iff.mp hd1
        rw [take_snoc hg1, List.map_append, List.map_append]
        refine ⟨rfl, yes_if ⟨.ref u, by kernel_rfl, .ref v1, by kernel_rfl, ?_⟩⟩
        refine ⟨u, v1, _, _, rfl, same_sqT (s2.trans sY) eu, e1, Nat.le_trans lotS_len (by decide), fun Y2 s3 => ?_⟩
        rw [inn hkm (hb g (List.mem_of_getElem? hg1))]
        exact ⟨_, s3 _ _ z1, by rw [List.length_map, List.length_map, List.length_take, sizeLine_eq]; omega, same_mut (sY.trans s3) nD, upd_same⟩
      · obtain ⟨sY, z1⟩ := pv
        rw [tf.length, List.length_map, List.take_length] at z1
        refine ⟨D, _, rfl, .inl (.inl z1), ?_⟩
        rw [List.any_map]
        refine .inl ⟨rfl, _, rfl, ?_⟩
        have s3 := sZ.trans (s2.trans sY)
        by_cases e : (gs.any fun g => inB g k) = (bs.any fun b => inB k b)
        · refine iteY (by rw [← show (bs.any (id ∘ fun b => inB k b)) = (bs.any fun b => inB k b) from rfl] at e; rw [e]) ?_
          have cf : coverB m gs bs = false := by
            unfold coverB
            rw [List.all_eq_false]
            exact ⟨k, List.mem_range.mpr hkm, by simp [e]⟩
          have := q Y (s1.trans s3)
          rw [cf] at this
          exact this
        · refine iteN (fun e2 => e (by injection e2)) ?_
          refine ⟨fun i hi => ?_, _, _, _, rfl, s3⟩
          by_cases c : i < k
          · exact all i c
          · have : i = k := by omega
            subst this
            simp [e]
    · obtain ⟨all, d3, d4, d5, rfl, sZ⟩ := pv
      have ct : coverB m gs bs = true := by
        unfold coverB
        rw [List.all_eq_true]
        exact fun i hi => all i (by rw [lv]; exact List.mem_range.mp hi)
      have := q Z (s1.trans sZ)
      rw [ct] at this
      exact this
end
end Wd

set_option Elab.async false
set_option linter.all false
set_option maxRecDepth 100000
set_option maxHeartbeats 4000000
namespace Wd
open PySem PySem.Spec PyProof.Rows L2
abbrev s__law_parts : Stmt := topS 10
theorem sc__law_parts : FnScope ["count", "k"] ["count"] (C8.fnScope s__law_parts) := ⟨rfl, rfl, rfl, by decide +kernel, rfl, by decide +kernel, by decide +kernel⟩
abbrev s__law_lot : Stmt := topS 11
theorem sc__law_lot : FnScope ["names", "count", "k"] ["names", "count"] (C8.fnScope s__law_lot) := ⟨rfl, rfl, rfl, by decide +kernel, rfl, by decide +kernel, by decide +kernel⟩
abbrev s__law_due : Stmt := topS 13
theorem sc__law_due : FnScope ["count", "good", "bad", "lot", "above", "one"] ["count", "good", "bad"] (C8.fnScope s__law_due) := ⟨rfl, rfl, rfl, by decide +kernel, rfl, by decide +kernel, by decide +kernel⟩
def natV (n : Nat) : V := .int (n : Int)
theorem nats_ints (rs : List Nat) : rs.map natV = (rs.map fun r : Nat => (r : Int)).map V.int := by
  rw [List.map_map]
  rfl
theorem dp_nats {K : PySem.W.Frag} {H : Hp} (rs : List Nat) : DpAll K H (rs.map natV) ((rs.map fun r : Nat => (r : Int)).map PyData.int) := by
  induction rs with
  | nil => exact .nil
  | cons r rs ih => exact .cons (.int _) ih
theorem eqv_nats (rs : List Nat) : PyData.eqv (.list ((rs.map fun r : Nat => (r : Int)).map PyData.int)) (.list []) = rs.isEmpty := by
  cases rs <;> simp [PyData.eqv, PyData.eqvAll]
theorem shaped_natsL (rs : List Nat) : SeqAt.shaped (.list ((rs.map fun r : Nat => (r : Int)).map PyData.int)) = true := shaped_intsT _
/-- a list of whole numbers against the empty one -/
theorem ne_nats {K : PySem.W.Frag} {a b : Addr} {H : Hp} {Q : VK} {rs : List Nat} (e1 : H a = some (.lst (rs.map natV))) (e2 : H b = some (.lst [])) (q : Q (.bl (!rs.isEmpty)) H) : rNeX K (.ref a) (.ref b) H Q := by
  refine .inr ⟨_, .list [], .lst (.inl (.inl e1)) (dp_nats rs), .lst (.inl (.inl e2)) .nil, shaped_natsL rs, by decide +kernel, ?_⟩
  rw [eqv_nats]
  exact q
theorem eq_nats {K : PySem.W.Frag} {a b : Addr} {H : Hp} {Q : VK} {rs : List Nat} (e1 : H a = some (.lst (rs.map natV))) (e2 : H b = some (.lst [])) (q : Q (.bl rs.isEmpty) H) : rEqX K (.ref a) (.ref b) H Q := by
  refine .inr ⟨_, .list [], .lst (.inl (.inl e1)) (dp_nats rs), .lst (.inl (.inl e2)) .nil, shaped_natsL rs, by decide +kernel, ?_⟩
  rw [eqv_nats]
  exact q
theorem any_filter (p : Nat → Bool) : ∀ rs : List Nat, (!(rs.filter p).isEmpty) = rs.any p
  | [] => rfl
  | r :: rs => by
    have ih := any_filter p rs
    by_cases c : p r = true
    · rw [List.filter_cons_of_pos c, List.any_cons, c]; rfl
    · rw [List.filter_cons_of_neg c, List.any_cons, ih]
      simp [c]
section
variable {P : Program} {w : World} {K : PySem.W.Frag} {mg : Str → Option Value} {base : Heap}
def spParts : Sp := fun vs H Q _ => ∃ n : Nat, vs = [natV n] ∧ n < 64 ∧ ∀ l H', Same H H' → H l = none → H' l = some (.lst ((bitsN n).map natV)) → Q (.ref l) H'
theorem c_parts {c : CA} (T : Txt P w K mg base c) {f : Addr} {fd : FuncData} (F : C8.Def K mg "_law_parts" s__law_parts f fd) (b : Binds K fd ["count"] []) : C8.Cal P w K mg base 1 "_law_parts" spParts [] := by
  refine C8.cal0 F b .nil sc__law_parts (fun vs H Q E h => ?_) (fun cdv A outer s H vs Q E hr h => ?_)
  · obtain ⟨n, rfl, _⟩ := h
    rfl
  · obtain ⟨n, rfl, hn, q⟩ := h
    have hu := hu_of hr
    have hu6 := hu64 hr
    refine ⟨_, (pss_one (ps_ret (pe_lc (own := [("k", 1)]) rfl sc__law_parts.nd (pi_range1 rfl T.b_range (pa_cons pe_int pa_nil)) (blkOk_by (by kernel_rfl)) (fun _ _ _ _ _ => (pg_name (i := 1) sc__law_parts.nd rfl (.inl rfl))) (fun _ _ _ _ _ => (pts_one (pt_cmpR (op_eqX (K := K) hu6) (pe_op (op_mod) (pe_op (op_fdivW) (pv 0) (pe_ix (ixG (K := K)) (pe_lst (pa_cons pe_int (pa_cons pe_int (pa_cons pe_int (pa_cons pe_int (pa_cons pe_int (pa_cons pe_int pa_nil))))))) (pv 1) (fun _ _ => rfl))) pe_int) pe_int (nomark _))))
      (fun _ _ _ _ _ => (pv 1))))), ?_⟩
    refine ⟨6, rfl, by decide, by decide, fun D nD => ?_⟩
    refine lc_it (walk_range (lo := 0) (n := 6)) (fun i Z => Same H Z ∧ Z D = some (.lst (((List.range i).filter fun k => decide (n / 2 ^ k % 2 = 1)).map natV))) ⟨same_new nD, upd_same⟩ (fun k Z _ pv => trivial) (fun i yv Z Z' hi pv hy => ?_) (fun Z pv => ?_)
    · obtain ⟨sZ, z1⟩ := pv
      obtain ⟨rfl, rfl⟩ := hy
      have hi6 : i < 6 := hi
      have p25 : 2 ^ i ≤ 2 ^ 5 := Nat.pow_le_pow_right (by decide) (by omega)
      have p32 : 2 ^ i ≤ 32 := p25
      have pp : 0 < 2 ^ i := Nat.pow_pos (by decide)
      have at_ : atI [V.int 1, V.int 2, V.int 4, V.int 8, V.int 16, V.int 32] ((0 : Int) + (i : Int)) = some (.int ((2 ^ i : Nat) : Int)) := by
        have : i = 0 ∨ i = 1 ∨ i = 2 ∨ i = 3 ∨ i = 4 ∨ i = 5 := by omega
        rcases this with rfl | rfl | rfl | rfl | rfl | rfl <;> rfl
      rw [List.range_succ, List.filter_append, List.map_append]
      refine ⟨rfl, natV n, rfl, by show 6 ≤ sizeLine; decide, fun l nl => ?_⟩
      have s1 := same_new nl (o := .lst [V.int 1, V.int 2, V.int 4, V.int 8, V.int 16, V.int 32])
      have el : (upd Z' l (.lst [V.int 1, V.int 2, V.int 4, V.int 8, V.int 16, V.int 32])) l = some (.lst [V.int 1, V.int 2, V.int 4, V.int 8, V.int 16, V.int 32]) := upd_same
      have z1 := s1 _ _ z1
      have sZ := sZ.trans s1
      generalize upd Z' l (.lst [V.int 1, V.int 2, V.int 4, V.int 8, V.int 16, V.int 32]) = Z1 at el z1 sZ
      refine ⟨.int (0 + i), by kernel_rfl, .inl ⟨l, _, _, _, rfl, rfl, .inl (.inl el), at_, _, _, rfl, rfl, pow60 (by omega) (by omega) _, _, _, rfl, rfl, by show (0 : Int) < 2; decide, ?_⟩⟩
      have ec : ((n : Int) / ((2 ^ i : Nat) : Int)) % 2 = ((n / 2 ^ i % 2 : Nat) : Int) := by norm_cast
      refine .inl ⟨rfl, _, rfl, ?_⟩
      by_cases c : n / 2 ^ i % 2 = 1
      · refine iteY (by show V.int ((n : Int) / ((2 ^ i : Nat) : Int) % 2) = V.int 1; rw [ec, c]; rfl) ?_
        refine ⟨.int (0 + i), by kernel_rfl, _, z1, by rw [List.length_map, sizeLine_eq]; exact Nat.lt_of_le_of_lt (List.length_filter_le _ _) (by rw [List.length_range]; omega), same_mut sZ nD, ?_⟩
        rw [upd_same, List.filter_cons_of_pos (by simp [c]), List.filter_nil, Int.zero_add]
        rfl
      · refine iteN (fun e => c (by
          have e : ((n : Int) / ((2 ^ i : Nat) : Int)) % 2 = 1 := by injection e
          rw [ec] at e
          exact_mod_cast e)) ⟨sZ, ?_⟩
        rw [List.filter_cons_of_neg (by simp [c]), List.filter_nil, List.map_nil, List.append_nil]
        exact z1
    · obtain ⟨sZ, z1⟩ := pv
      exact q D Z sZ nD z1
def spLot (K : PySem.W.Frag) : Sp := fun vs H Q _ => ∃ (a : Addr) (ns : List Str) (n m : Nat), vs = [.ref a, natV n] ∧ H a = some (.lst (ns.map V.str)) ∧ ns.length = m ∧ m ≤ 6 ∧ n < 2 ^ m ∧ ∀ u H', Same H H' → SqT K H' u ((lotS ns n).map V.str) → Q (.ref u) H'
theorem c_lot {c : CA} (T : Txt P w K mg base c) (c_law_parts : C8.Cal P w K mg base 1 "_law_parts" spParts []) {f : Addr} {fd : FuncData} (F : C8.Def K mg "_law_lot" s__law_lot f fd) (b : Binds K fd ["names", "count"] []) : C8.Cal P w K mg base 2 "_law_lot" (spLot K) [] := by
  refine C8.cal0 F b .nil sc__law_lot (fun vs H Q E h => ?_) (fun cdv A outer s H vs Q E hr h => ?_)
  · obtain ⟨a, ns, n, m, rfl, _⟩ := h
    rfl
  · obtain ⟨a, ns, n, m, rfl, ea, lm, h6, hn, q⟩ := h
    have hu := hu_of hr
    have hu6 := hu64 hr
    refine ⟨_, (pss_one (ps_ret (pe_tupleOf (by rfl) T.b_tuple (pe_lc (own := [("k", 2)]) rfl sc__law_lot.nd (pi_listK (K := K) (C8.pe_c c_law_parts hr (by decide) (by rfl) (pa_cons (pv 1) pa_nil))) (blkOk_by (by kernel_rfl)) (fun _ _ _ _ _ => (pg_name (i := 2) sc__law_lot.nd rfl (.inl rfl))) (fun _ _ _ _ _ => pts_nil)
      (fun _ _ _ _ _ => (pe_ix (ixG (K := K)) (pv 0) (pv 2) (fun _ _ => rfl))))))), ?_⟩
    have p6 := pow_le64 h6
    have lt := bits_lt m (by omega) n (by omega) hn
    refine ⟨natV n, rfl, n, rfl, by omega, fun l G1 s1 nl el => ?_⟩
    refine ⟨l, rfl, ⟨_, .inl (.inl el)⟩, fun D nD => ?_⟩
    refine lc_it (walk_list (a := l) (xs := (bitsN n).map natV)) (fun i Z => Same G1 Z ∧ Z D = some (.lst ((((bitsN n).take i).map fun k => ns.getD k Str.empty).map V.str))) ⟨same_new nD, upd_same⟩ (fun i Z _ pv => .inl (.inl (pv.1 _ _ el))) (fun i y Z Z' hi pv hy => ?_) (fun Z pv => ?_)
    · obtain ⟨rfl, hv⟩ := hy
      obtain ⟨sZ, z1⟩ := pv
      rw [List.getElem?_map] at hv
      obtain ⟨k, hk, rfl⟩ := Option.map_eq_some_iff.mp hv
      have hkm : k < ns.length := by rw [lm]; exact lt k (List.mem_of_getElem? hk)
      rw [take_snoc hk, List.map_append, List.map_append]
      have hg : ns[k]? = some (ns.getD k Str.empty) := by
        rw [List.getD_eq_getElem?_getD, List.getElem?_eq_getElem hkm]
        rfl
      refine ⟨rfl, yes_if ⟨.ref a, by kernel_rfl, natV k, by kernel_rfl, .inl ⟨a, _, _, _, rfl, rfl, .inl (.inl (sZ _ _ (s1 _ _ ea))), atI_in (j := k) rfl (by rw [List.getElem?_map, hg]; rfl), _, z1, ?_, same_mut sZ nD, upd_same⟩⟩⟩
      rw [List.length_map, List.length_map, List.length_take, sizeLine_eq]
      have : (bitsN n).length ≤ 6 := Nat.le_trans (List.length_filter_le _ _) (by rw [List.length_range]; exact Nat.le_refl _)
      omega
    · obtain ⟨sZ, z1⟩ := pv
      rw [List.length_map, List.take_length] at z1
      refine .inl ⟨D, _, rfl, .inl (.inl z1), fun u nu => ?_⟩
      exact q u _ ((s1.trans sZ).trans (same_new nu)) (.inl (.inl upd_same))
/-- whether each lot is above one of the first or beneath one of the second, none both, by bits -/
def spDueL : Sp := fun vs H Q _ => ∃ (gl bl : Addr) (m : Nat) (gs bs : List Nat), vs = [natV (2 ^ m), .ref gl, .ref bl] ∧ m ≤ 6 ∧ H gl = some (.lst (gs.map natV)) ∧ (∀ g ∈ gs, g < 2 ^ m) ∧ gs.length ≤ 100 ∧ H bl = some (.lst (bs.map natV)) ∧ (∀ g ∈ bs, g < 2 ^ m) ∧ bs.length ≤ 100 ∧ ∀ H', Same H H' → Q (.bl (coverB m gs bs)) H'
theorem c_dueL {c : CA} (T : Txt P w K mg base c) {f : Addr} {fd : FuncData} (F : C8.Def K mg "_law_due" s__law_due f fd) (b : Binds K fd ["count", "good", "bad"] []) : C8.Cal P w K mg base 1 "_law_due" spDueL [] := by
  refine C8.cal0 F b .nil sc__law_due (fun vs H Q E h => ?_) (fun cdv A outer s H vs Q E hr h => ?_)
  · obtain ⟨gl, bl, m, gs, bs, rfl, _⟩ := h
    rfl
  · obtain ⟨gl, bl, m, gs, bs, rfl, h6, eg, hg, lg, eb, hb, lb, q⟩ := h
    have hu := hu_of hr
    have hu6 := hu64 hr
    refine ⟨_, (pss_cons (ps_for PassesOwn.never rfl (pi_range1 rfl T.b_range (pa_cons (pv 0) pa_nil)) (pg_name (i := 3) sc__law_due.nd rfl (.inr rfl))
    (C8.pss_cut (ps_set (i := 4) sc__law_due.nd rfl (.inl rfl) (pe_cmpR (op_neX (K := K) hu6) (pe_lc (own := [("one", 5)]) rfl sc__law_due.nd (pi_listK (K := K) (pv 1)) (blkOk_by (by kernel_rfl)) (fun _ _ _ _ _ => (pg_name (i := 5) sc__law_due.nd rfl (.inl rfl))) (fun _ _ _ _ _ => (pts_one (pt_cmpR (op_eqX (K := K) hu6) (pe_op (op_and) (pv 5) (pv 3)) (pv 5) (nomark _))))
      (fun _ _ _ _ _ => (pv 5))) (pe_lst pa_nil) (nomark _)))
  (pss_one (ps_if (pt_cmpR (op_eqX (K := K) hu6) (pv 4) (pe_cmpR (op_neX (K := K) hu6) (pe_lc (own := [("one", 5)]) rfl sc__law_due.nd (pi_listK (K := K) (pv 2)) (blkOk_by (by kernel_rfl)) (fun _ _ _ _ _ => (pg_name (i := 5) sc__law_due.nd rfl (.inl rfl))) (fun _ _ _ _ _ => (pts_one (pt_cmpR (op_eqX (K := K) hu6) (pe_op (op_and) (pv 5) (pv 3)) (pv 3) (nomark _))))
      (fun _ _ _ _ _ => (pv 5))) (pe_lst pa_nil) (nomark _)) (nomark _)) (pss_one (ps_ret pe_bl)) pss_nil))))
  (pss_one (ps_ret pe_bl))), ?_⟩
    have p6 := pow_le64 h6
    refine ⟨natV (2 ^ m), rfl, ((2 ^ m : Nat) : Int), rfl, Int.le_trans (by decide) (Int.natCast_nonneg (2 ^ m)), by omega, ?_⟩
    rw [Int.toNat_natCast]
    refine for_range (fun k σ Z => (∀ i, i < k → ((gs.any fun g => inB g i) != (bs.any fun b => inB i b)) = true) ∧ ∃ d3 d4 d5 : Option V, σ = [some (natV (2 ^ m)), some (.ref gl), some (.ref bl), d3, d4, d5] ∧ Same H Z) ⟨fun i hi => absurd hi (Nat.not_lt_zero _), _, _, _, rfl, fun _ _ e => e⟩ (fun k σ Z hk pv => ?_) (fun σ Z pv => ?_)
    · obtain ⟨all, d3, d4, d5, rfl, sZ⟩ := pv
      have hb6 : ∀ {g : Nat}, g < 2 ^ m → g < 64 := fun h => by omega
      refine ⟨fun σ Y => ∃ d5 : Option V, σ = [some (natV (2 ^ m)), some (.ref gl), some (.ref bl), some (.int (0 + k)), some (.bl (gs.any fun g => inB g k)), d5] ∧ Same Z Y, ?_, ?_⟩
      · refine ⟨.ref gl, rfl, gl, rfl, ⟨_, .inl (.inl (sZ _ _ eg))⟩, fun D nD => ?_⟩
        refine lc_it (walk_list (a := gl) (xs := gs.map natV)) (fun i Y => Same Z Y ∧ Y D = some (.lst (((gs.take i).filter fun g => inB g k).map natV))) ⟨same_new nD, upd_same⟩ (fun i Y _ pv => .inl (.inl (pv.1 _ _ (sZ _ _ eg)))) (fun i y Y Y' hi pv hy => ?_) (fun Y pv => ?_)
        · obtain ⟨rfl, hv⟩ := hy
          obtain ⟨sY, z1⟩ := pv
          rw [List.getElem?_map] at hv
          obtain ⟨g, hg1, rfl⟩ := Option.map_eq_some_iff.mp hv
          have hgm := hg g (List.mem_of_getElem? hg1)
          rw [take_snoc hg1, List.filter_append, List.map_append]
          have tab := and_in g (hb6 hgm) k (hb6 hk)
          refine ⟨rfl, natV g, by kernel_rfl, .int (0 + k), by kernel_rfl, _, _, rfl, rfl, natV g, by kernel_rfl, .inl ⟨rfl, _, rfl, ?_⟩⟩
          rw [Int.zero_add]
          by_cases c : inB g k = true
          · rw [c] at tab
            refine iteY (congrArg V.int (of_decide_eq_true tab)) ?_
            refine ⟨natV g, by kernel_rfl, _, z1, by rw [List.length_map, sizeLine_eq]; exact Nat.lt_of_le_of_lt (List.length_filter_le _ _) (by rw [List.length_take]; omega), same_mut sY nD, ?_⟩
            rw [upd_same, List.filter_cons_of_pos (by simp [c]), List.filter_nil]
            rfl
          · rw [Bool.eq_false_iff.mpr c] at tab
            refine iteN (fun e => of_decide_eq_false tab (by injection e)) ⟨sY, ?_⟩
            rw [List.filter_cons_of_neg (by simp [c]), List.filter_nil, List.map_nil, List.append_nil]
            exact z1
        · obtain ⟨sY, z1⟩ := pv
          rw [List.length_map, List.take_length] at z1
          refine ⟨by show 0 ≤ sizeLine; decide, fun e0 n0 => ?_⟩
          have s1 := same_new n0 (o := .lst [])
          refine ne_nats (s1 _ _ z1) upd_same ?_
          rw [any_filter]
          exact ⟨_, rfl, sY.trans s1⟩
      rintro σ2 G2 ⟨d5, rfl, s2⟩
      have eb2 := s2 _ _ (sZ _ _ eb)
      refine ⟨.bl (gs.any fun g => inB g k), rfl, .ref bl, rfl, bl, rfl, ⟨_, .inl (.inl eb2)⟩, fun D nD => ?_⟩
      refine lc_it (walk_list (a := bl) (xs := bs.map natV)) (fun i Y => Same G2 Y ∧ Y D = some (.lst (((bs.take i).filter fun g => inB k g).map natV))) ⟨same_new nD, upd_same⟩ (fun i Y _ pv => .inl (.inl (pv.1 _ _ eb2))) (fun i y Y Y' hi pv hy => ?_) (fun Y pv => ?_)
      · obtain ⟨rfl, hv⟩ := hy
        obtain ⟨sY, z1⟩ := pv
        rw [List.getElem?_map] at hv
        obtain ⟨g, hg1, rfl⟩ := Option.map_eq_some_iff.mp hv
        have hgm := hb g (List.mem_of_getElem? hg1)
        rw [take_snoc hg1, List.filter_append, List.map_append]
        have tab := and_in2 g (hb6 hgm) k (hb6 hk)
        refine ⟨rfl, natV g, by kernel_rfl, .int (0 + k), by kernel_rfl, _, _, rfl, rfl, .int (0 + k), by kernel_rfl, .inl ⟨rfl, _, rfl, ?_⟩⟩
        rw [Int.zero_add]
        by_cases c : inB k g = true
        · rw [c] at tab
          refine iteY (congrArg V.int (of_decide_eq_true tab)) ?_
          refine ⟨natV g, by kernel_rfl, _, z1, by rw [List.length_map, sizeLine_eq]; exact Nat.lt_of_le_of_lt (List.length_filter_le _ _) (by rw [List.length_take]; omega), same_mut sY nD, ?_⟩
          rw [upd_same, List.filter_cons_of_pos (by simp [c]), List.filter_nil]
          rfl
        · rw [Bool.eq_false_iff.mpr c] at tab
          refine iteN (fun e => of_decide_eq_false tab (by injection e)) ⟨sY, ?_⟩
          rw [List.filter_cons_of_neg (by simp [c]), List.filter_nil, List.map_nil, List.append_nil]
          exact z1
      · obtain ⟨sY, z1⟩ := pv
        rw [List.length_map, List.take_length] at z1
        refine ⟨by show 0 ≤ sizeLine; decide, fun e0 n0 => ?_⟩
        have s1 := same_new n0 (o := .lst [])
        refine ne_nats (s1 _ _ z1) upd_same ?_
        rw [any_filter]
        refine .inl ⟨rfl, _, rfl, ?_⟩
        have s3 := sZ.trans (s2.trans (sY.trans s1))
        by_cases e : (gs.any fun g => inB g k) = (bs.any fun b => inB k b)
        · refine iteY (by rw [e]) ?_
          have cf : coverB m gs bs = false := by
            unfold coverB
            rw [List.all_eq_false]
            exact ⟨k, List.mem_range.mpr hk, by simp [e]⟩
          have := q _ s3
          rw [cf] at this
          exact this
        · refine iteN (fun e2 => e (by injection e2)) ?_
          refine ⟨fun i hi => ?_, _, _, _, rfl, s3⟩
          by_cases c : i < k
          · exact all i c
          · have : i = k := by omega
            subst this
            simp [e]
    · obtain ⟨all, d3, d4, d5, rfl, sZ⟩ := pv
      have ct : coverB m gs bs = true := by
        unfold coverB
        rw [List.all_eq_true]
        exact fun i hi => all i (List.mem_range.mp hi)
      have := q Z sZ
      rw [ct] at this
      exact this
end
end Wd

set_option Elab.async false
set_option linter.all false
set_option maxRecDepth 100000
set_option maxHeartbeats 4000000
namespace Wd
open PySem PySem.Spec PyProof.Rows L2
abbrev s__law_names : Stmt := topS 9
theorem sc__law_names : FnScope ["pen", "many", "words", "turn", "letters", "k", "base", "at", "first", "cut", "step", "found", "tail"] ["pen", "many"] (C8.fnScope s__law_names) := ⟨rfl, rfl, rfl, by decide +kernel, rfl, by decide +kernel, by decide +kernel⟩
def lettersZ : Str := "abcdefghijklmnopqrstuvwxyz"
theorem letters_in : ∀ c ∈ lettersZ.cps.toList, 97 ≤ c ∧ c ≤ 122 := by decide +kernel
def mk (cu : Int) (k : Nat) : Nat := if cu = 0 then 8 else k % 3
theorem mk_at {cu : Int} {i : Nat} (h0 : 0 ≤ cu) (h1 : cu < 2) : atI [V.int 8, V.int ((0 + (i : Int)) % 3)] cu = some (.int (mk cu i)) := by
  have h : cu = 0 ∨ cu = 1 := by omega
  rcases h with rfl | rfl
  · rfl
  · have e : ((mk 1 i : Nat) : Int) = (0 + (i : Int)) % 3 := by
      show ((i % 3 : Nat) : Int) = _
      omega
    rw [e]
    rfl
theorem steps_le : ∀ {s : Nat}, s ∈ stepsL → s ≤ 25 := by decide
theorem letters_at : ∀ j : Nat, j < 26 → lettersZ.cps.toList[j]? = some (97 + j) := by decide +kernel
theorem ones_sum : ∀ bl : List Nat, (bl.map fun c => (SX.S [c]).length).sum = bl.length
  | [] => rfl
  | c :: r => by
    rw [List.map_cons, List.sum_cons, ones_sum r, List.length_cons]
    show 1 + _ = _
    omega
theorem Kp.free {p l : Addr} {H H' : Hp} (k : Kp p H H') (ne : l ≠ p) (n : H' l = none) : H l = none := by
  cases e : H l with
  | none => rfl
  | some o =>
    rw [k _ _ ne e] at n
    cases n
theorem cutV_from {xs : List V} {t : Int} (h : 0 ≤ t) : cutV xs (some t) none = xs.drop t.toNat := by
  obtain ⟨m, rfl⟩ := Int.eq_ofNat_of_zero_le h
  unfold cutV
  rw [HT.sIx_nat, HT.sIx_none, Int.toNat_natCast]
  by_cases c : m ≤ xs.length
  · rw [Nat.min_eq_left c, List.take_of_length_le (by rw [List.length_drop]; omega)]
  · rw [Nat.min_eq_right (by omega), Nat.sub_self, List.take_zero, List.drop_eq_nil_of_le (by omega)]
theorem cutV_to {xs : List V} {t : Int} (h : 0 ≤ t) : cutV xs none (some t) = xs.take t.toNat := by
  obtain ⟨m, rfl⟩ := Int.eq_ofNat_of_zero_le h
  unfold cutV
  rw [HT.sIx_nat, HT.sIx_none, Int.toNat_natCast, List.drop_zero, Nat.sub_zero]
  by_cases c : m ≤ xs.length
  · rw [Nat.min_eq_left c]
  · rw [Nat.min_eq_right (by omega), List.take_of_length_le (by omega), List.take_of_length_le (by omega)]
theorem Pen.le {K : PySem.W.Frag} {H : Hp} {p : Addr} {q : Addr × List Int} {n m : Nat} (h : Pen K H p q n) (l : n ≤ m) : Pen K H p q m := by
  obtain ⟨t, r, h1, h2, h3, h4, h5, h6, h7⟩ := h
  exact ⟨t, r, h1, h2, h3, h4, h5, by omega, h7⟩
section
variable {P : Program} {w : World} {K : PySem.W.Frag} {mg : Str → Option Value} {base : Heap}
def spNames (K : PySem.W.Frag) : Sp := fun vs H Q _ => ∃ (p : Addr) (qc : Addr × List Int) (n many : Nat), vs = [.ref p, .int many] ∧ Pen K H p qc n ∧ n + 20 < 1000000 ∧ 1 ≤ many ∧ many ≤ 18 ∧
  ∀ (l : Addr) (xs : List Str) (H' : Hp), xs.length = many → xs.Nodup → (∀ x ∈ xs, NameOk x) → H l = none → H' l = some (.lst (xs.map V.str)) → l ≠ p → Kp p H H' → Pen K H' p qc (n + 20) → Q (.ref l) H'
theorem c_names {c : CA} (T : Txt P w K mg base c) (c_law_draw : C8.Cal P w K mg base 1 "_law_draw" (spDraw K) []) (c_law_pick : C8.Cal P w K mg base 2 "_law_pick" (spPick K) []) {f : Addr} {fd : FuncData} (F : C8.Def K mg "_law_names" s__law_names f fd) (b : Binds K fd ["pen", "many"] []) : C8.Cal P w K mg base 3 "_law_names" (spNames K) [] := by
  refine C8.cal0 F b .nil sc__law_names (fun vs H Q E h => ?_) (fun cdv A outer s H vs Q E hr h => ?_)
  · obtain ⟨p, qc, n, many, rfl, _⟩ := h
    rfl
  · obtain ⟨p, qc, n, many, rfl, hp, hn, m1, m2, q⟩ := h
    have hu := hu_of hr
    have hu6 := hu64 hr
    refine ⟨_, (pss_cons (ps_if (pt_cmpR (op_eqX (K := K) hu6) (C8.pe_c c_law_draw hr (by decide) (by rfl) (pa_cons (pv 0) (pa_cons pe_int pa_nil))) pe_int (nomark _)) (pss_cons (ps_set (i := 2) sc__law_names.nd rfl (.inl rfl) (pe_lst (pa_cons pe_str (pa_cons pe_str (pa_cons pe_str (pa_cons pe_str (pa_cons pe_str (pa_cons pe_str (pa_cons pe_str (pa_cons pe_str (pa_cons pe_str (pa_cons pe_str (pa_cons pe_str (pa_cons pe_str (pa_cons pe_str pa_nil)))))))))))))))
  (pss_cons (ps_set (i := 3) sc__law_names.nd rfl (.inl rfl) (C8.pe_c c_law_draw hr (by decide) (by rfl) (pa_cons (pv 0) (pa_cons pe_int pa_nil))))
  (pss_one (ps_ret (pe_slice (sl_any (K := K)) (pe_slice (sl_any (K := K)) (pe_op (op_mulG (K := K)) (pe_op (op_addG (K := K)) (pv 2) (pe_lst (pa_cons pe_str (pa_cons pe_str (pa_cons pe_str (pa_cons pe_str (pa_cons pe_str pa_nil))))))) pe_int) (po_some (pv 3)) po_none) po_none (po_some (pv 1))))))) pss_nil)
  (pss_cons (ps_set (i := 4) sc__law_names.nd rfl (.inr rfl) pe_str)
  (pss_cons (ps_set (i := 6) sc__law_names.nd rfl (.inl rfl) (pe_bm PySem.F.plainAttrs_str PySem.F.slot_str_join PySem.F.type_str_join mt_join pe_str (pa_cons (pe_lc (own := [("k", 5)]) rfl sc__law_names.nd (pi_range1 rfl T.b_range (pa_cons (pe_op (op_addG (K := K)) pe_int (C8.pe_c c_law_draw hr (by decide) (by rfl) (pa_cons (pv 0) (pa_cons pe_int pa_nil)))) pa_nil)) (blkOk_by (by kernel_rfl)) (fun _ _ _ _ _ => (pg_name (i := 5) sc__law_names.nd rfl (.inl rfl))) (fun _ _ _ _ _ => pts_nil)
      (fun _ _ _ _ _ => (C8.pe_c c_law_pick hr (by decide) (by rfl) (pa_cons (pv 0) (pa_cons (pv 4) pa_nil))))) pa_nil)))
  (pss_cons (ps_par3 (i := 7) (j := 8) (l := 9) rfl sc__law_names.nd rfl rfl rfl (by decide) (by decide) (by decide) rfl rfl rfl (pa_cons (C8.pe_c c_law_draw hr (by decide) (by rfl) (pa_cons (pv 0) (pa_cons (pe_callB (call_lenG (K := K)) (by rfl) T.b_len bt_len (pa_cons (pv 6) pa_nil)) pa_nil))) (pa_cons (C8.pe_c c_law_draw hr (by decide) (by rfl) (pa_cons (pv 0) (pa_cons pe_int pa_nil))) (pa_cons (C8.pe_c c_law_draw hr (by decide) (by rfl) (pa_cons (pv 0) (pa_cons pe_int pa_nil))) pa_nil))) rfl)
  (pss_cons (ps_par (i := 10) (j := 11) rfl sc__law_names.nd rfl rfl (by decide) rfl rfl (pa_cons (C8.pe_c c_law_pick hr (by decide) (by rfl) (pa_cons (pv 0) (pa_cons (pe_lst (pa_cons pe_int (pa_cons pe_int (pa_cons pe_int (pa_cons pe_int (pa_cons pe_int (pa_cons pe_int (pa_cons pe_int (pa_cons pe_int (pa_cons pe_int (pa_cons pe_int (pa_cons pe_int (pa_cons pe_int pa_nil))))))))))))) pa_nil))) (pa_cons (pe_lst pa_nil) pa_nil)) rfl)
  (pss_cons (ps_for PassesOwn.never rfl (pi_range1 rfl T.b_range (pa_cons (pv 1) pa_nil)) (pg_name (i := 5) sc__law_names.nd rfl (.inl rfl))
    (pss_cons (ps_set (i := 12) sc__law_names.nd rfl (.inl rfl) (pe_slice (sl_any (K := K)) (pe_slice (sl_any (K := K)) (pv 6) (po_some (pe_op (op_addG (K := K)) (pv 7) pe_int)) po_none) po_none (po_some (pe_ix (ixG (K := K)) (pe_lst (pa_cons pe_int (pa_cons (pe_op (op_mod) (pv 5) pe_int) pa_nil))) (pv 9) (fun _ _ => rfl)))))
  (pss_one (ps_expr (pe_bm PySem.F.plainAttrs_list PySem.F.slot_list_append PySem.F.type_list_append mt_append (pv 11) (pa_cons (pe_op (op_addG (K := K)) (pe_op (op_addG (K := K)) (pe_slice (sl_any (K := K)) (pv 6) po_none (po_some (pv 7))) (pe_ix (ixG (K := K)) (pv 4) (pe_op (op_mod) (pe_op (op_addG (K := K)) (pv 8) (pe_op (op_mulG (K := K)) (pv 10) (pv 5))) pe_int) (fun _ _ => rfl))) (pv 12)) pa_nil))))))
  (C8.pss_cut (ps_if (PW.pt (pw_and (pt_cmpR (op_gt) (pv 7) pe_int (nomark _)) (pw_and1 (pt_cmpR (op_eqX (K := K) hu6) (C8.pe_c c_law_draw hr (by decide) (by rfl) (pa_cons (pv 0) (pa_cons pe_int pa_nil))) pe_int (nomark _))))) (pss_one (ps_asg (pe_slice (sl_any (K := K)) (pv 6) po_none (po_some (pv 7))) (pg_sub (pv 11) (C8.pe_c c_law_draw hr (by decide) (by rfl) (pa_cons (pv 0) (pa_cons (pv 1) pa_nil))) set_list))) pss_nil)
  (pss_one (ps_ret (pv 11)))))))))), ?_⟩
    refine ⟨.ref p, rfl, p, qc, 7, n, rfl, hp, by omega, by decide, by decide, fun d H1 d0 d1 k1 p1 => ?_⟩
    refine .inl ⟨rfl, _, rfl, ite2 (fun e => ?_) (fun e => ?_)⟩
    · -- words
      refine ⟨by show 13 ≤ sizeLine; decide, fun a0 na0 => ?_⟩
      refine ⟨.ref p, rfl, p, qc, 18, n + 1, rfl, p1.same (same_new na0), by omega, by decide, by decide, fun t H3 t0 t1 k3 p3 => ?_⟩
      have e0 : H3 a0 = some (.lst (wordsA.map V.str)) := k3 _ _ (p1.off na0) upd_same
      refine ⟨.ref a0, rfl, by show 5 ≤ sizeLine; decide, fun a1 na1 => .inl ⟨a0, a1, wordsA.map V.str, wordsB.map V.str, rfl, rfl, same_new na1 _ _ e0, upd_same, by show 13 + 5 ≤ sizeLine; decide, fun a2 na2 => ?_⟩⟩
      refine ⟨a2, 2, _, rfl, rfl, upd_same, by decide, by decide, by show 18 * 2 ≤ sizeLine; decide, fun a3 na3 => ?_⟩
      refine ⟨.int t, rfl, t, rfl, .inl ⟨a3, _, rfl, .inl (.inl upd_same), fun a4 na4 => ?_⟩⟩
      refine ⟨.int many, rfl, many, rfl, .inl ⟨a4, _, rfl, .inl (.inl upd_same), fun a5 na5 => ?_⟩⟩
      have ok := wordsCut_ok (t := t.toNat) (m := many) (by omega) m2
      have s4 : Same H3 _ := ((((same_new (o := .lst (wordsB.map V.str)) na1).trans (same_new (o := .lst (wordsA.map V.str ++ wordsB.map V.str)) na2)).trans (same_new (o := .lst (List.replicate (2 : Int).toNat (wordsA.map V.str ++ wordsB.map V.str)).flatten) na3)).trans (same_new (o := .lst (cutV (List.replicate (2 : Int).toNat (wordsA.map V.str ++ wordsB.map V.str)).flatten (some t) none)) na4))
      have s5 : Same H3 (upd (upd (upd (upd (upd H3 a1 (.lst (wordsB.map V.str))) a2 (.lst (wordsA.map V.str ++ wordsB.map V.str))) a3 (.lst (List.replicate (2 : Int).toNat (wordsA.map V.str ++ wordsB.map V.str)).flatten)) a4 (.lst (cutV (List.replicate (2 : Int).toNat (wordsA.map V.str ++ wordsB.map V.str)).flatten (some t) none))) a5 (.lst (cutV (cutV (List.replicate (2 : Int).toNat (wordsA.map V.str ++ wordsB.map V.str)).flatten (some t) none) none (some many)))) :=
        s4.trans (same_new na5)
      have ew : cutV (cutV (List.replicate (2 : Int).toNat (wordsA.map V.str ++ wordsB.map V.str)).flatten (some t) none) none (some many) = (wordsCut t.toNat many).map V.str := by
        rw [cutV_from t0, cutV_to (by omega)]
        unfold wordsCut
        rw [List.map_take, List.map_drop, Int.toNat_natCast]
        rfl
      have of5 : a5 ≠ p := (p3.same s4).off na5
      have fr : H a5 = none := k1.free of5 ((same_new na0).free (k3.free of5 (s4.free na5)))
      refine q a5 _ _ ok.2.1 ok.1 ok.2.2 fr (by rw [← ew]; exact upd_same) of5 ?_ ?_
      · exact fun b o nb e => s5 _ _ (k3 _ _ nb (same_new na0 _ _ (k1 _ _ nb e)))
      · exact (p3.same s5).le (by omega)
    -- letters
    refine ⟨rfl, ?_⟩
    refine ⟨.ref p, rfl, p, qc, 8, n + 1, rfl, p1, by omega, by decide, by decide, fun d2 H2 d20 d21 k2 p2 => ?_⟩
    refine ⟨1 + d2, rfl, by omega, by omega, fun D nD => ?_⟩
    have ofD : D ≠ p := p2.off nD
    have zD : H D = none := k1.free ofD (k2.free ofD nD)
    refine lc_range (fun i G => ∃ cs : List Nat, cs.length = i ∧ (∀ c ∈ cs, 97 ≤ c ∧ c ≤ 122) ∧ G D = some (.lst (cs.map fun c => V.str (SX.S [c]))) ∧ Kp p H G ∧ Pen K G p qc (n + 2 + i)) ⟨[], rfl, by simp, upd_same, (k1.trans k2).new nD, p2.same (same_new nD)⟩ (fun i G hi pv => ?_) (fun G pv => ?_)
    · obtain ⟨cs, c1, c2, c3, c4, c5⟩ := pv
      have hi8 : i < 9 := by omega
      refine ⟨rfl, ?_⟩
      refine yes_if ?_
      refine ⟨.ref p, rfl, .str lettersZ, rfl, p, .str lettersZ, qc, n + 2 + i, _, rfl, c5, by omega, .inr ⟨lettersZ, rfl, by decide +kernel, rfl⟩, by decide +kernel, by decide +kernel, fun v G' hv k hp' => ?_⟩
      obtain ⟨ch, hch, rfl⟩ := List.mem_map.mp hv
      refine ⟨_, k _ _ ofD c3, by rw [List.length_map]; exact small1000000 (by omega), cs ++ [ch], by rw [List.length_append, c1]; rfl, ?_, ?_, ?_, hp'.wr hp zD⟩
      · intro c hc
        rcases List.mem_append.mp hc with hc | hc
        · exact c2 c hc
        · rw [List.mem_singleton.mp hc]
          exact letters_in ch hch
      · rw [upd_same, List.map_append]
        rfl
      · intro b o nb e
        have : b ≠ D := fun z => by rw [z, zD] at e; cases e
        rw [upd_ne this]
        exact k _ _ nb (c4 _ _ nb e)
    obtain ⟨bl, c1, c2, c3, c4, c5⟩ := pv
    have b1 : 1 ≤ bl.length := by omega
    have b8 : bl.length ≤ 8 := by omega
    refine ⟨"", D, bl.map fun c => SX.S [c], rfl, rfl, .inl (.inl (.inl (by rw [List.map_map]; exact c3))), ?_, ?_⟩
    · rw [List.map_map, List.length_map, show (("" : Str)).length = 0 from rfl, Nat.mul_zero]
      have := ones_sum bl
      show (bl.map fun c => (SX.S [c]).length).sum + 0 ≤ _
      omega
    have eb : Txt.join "" (bl.map fun c => SX.S [c]) = SX.S bl := by
      have := SX.join_S [] (bl.map fun c => [c])
      rw [List.map_map, joinL_ones] at this
      exact this
    rw [eb]
    have p5 : Pen K G p qc (n + 11) := c5.le (by omega)
    clear c5 p2 p1 k1 k2 nD
    have elen : (SX.S bl).length = bl.length := SX.S_len bl
    -- at, first, cut
    refine ⟨.ref p, rfl, .str (SX.S bl), rfl, by rw [elen, sizeLine_eq]; omega, ?_⟩
    refine ⟨p, qc, _, n + 11, rfl, p5, by omega, by rw [elen]; omega, by rw [elen]; omega, fun a H5 a0 a1 k5 p6 => ?_⟩
    rw [elen] at a1
    refine ⟨.ref p, rfl, p, qc, 26, n + 12, rfl, p6, by omega, by decide, by decide, fun fi H6 f0 f1 k6 p7 => ?_⟩
    refine ⟨.ref p, rfl, p, qc, 2, n + 13, rfl, p7, by omega, by decide, by decide, fun cu H7 u0 u1 k7 p8 => ?_⟩
    refine ⟨_, _, _, rfl, ?_⟩
    -- step, found
    have kA : Kp p H H7 := ((c4.trans k5).trans k6).trans k7
    clear k5 k6 k7 p5 p6 p7 c3 c4
    refine ⟨.ref p, rfl, by show 12 ≤ sizeLine; decide, fun l0 n0 => ?_⟩
    refine ⟨p, .ref l0, qc, n + 14, stepsL.map fun (s : Nat) => V.int (s : Int), rfl, p8.same (same_new n0), by omega, .inl ⟨l0, rfl, p8.off n0, .inl (.inl (.inl upd_same))⟩, by decide, by decide, fun v H9 hv k9 p9 => ?_⟩
    obtain ⟨sp, hsp, rfl⟩ := List.mem_map.mp hv
    refine ⟨Nat.zero_le _, fun lf nf => ⟨_, _, rfl, ?_⟩⟩
    have kB : Kp p H H9 := fun b o nb e => k9 _ _ nb (same_new n0 _ _ (kA _ _ nb e))
    have of' : lf ≠ p := p9.off nf
    have zf : H lf = none := kB.free of' nf
    have kC : Kp p H (upd H9 lf (.lst [])) := kB.new nf
    have pC := p9.same (same_new nf (o := .lst []))
    have eC : (upd H9 lf (.lst [])) lf = some (.lst []) := upd_same
    generalize upd H9 lf (.lst []) = HC at kC pC eC
    clear kA kB k9 p9 p8 n0 nf hv
    -- the names one by one
    obtain ⟨a', rfl⟩ := Int.eq_ofNat_of_zero_le a0
    obtain ⟨fi', rfl⟩ := Int.eq_ofNat_of_zero_le f0
    refine ⟨.int many, rfl, many, rfl, by omega, by omega, ?_⟩
    refine for_range (fun i σ G => ∃ d5 d12 : Option V, σ = [some (.ref p), some (.int many), none, none, some (.str lettersZ), d5, some (.str (SX.S bl)), some (.int (a' : Int)), some (.int (fi' : Int)), some (.int cu), some (.int (sp : Int)), some (.ref lf), d12] ∧ Kp p H G ∧ Pen K G p qc (n + 15) ∧ G lf = some (.lst ((List.range i).map fun k => V.str (SX.S (nmAt bl a' fi' sp k (mk cu k)))))) ⟨_, _, rfl, kC, pC.le (by omega), eC⟩ (fun i σ G hi pv => ?_) (fun σ G pv => ?_)
    · obtain ⟨d5, d12, rfl, g1, g2, g3⟩ := pv
      have hlen8 : (SX.S bl).length ≤ sizeLine := by rw [elen, sizeLine_eq]; omega
      have hI : i < 18 := by omega
      refine ⟨.str (SX.S bl), rfl, .int a', rfl, _, rfl, .inr (.inr ⟨SX.S bl, rfl, hlen8, ?_⟩)⟩
      rw [SX.slice_from (by omega), show ((a' : Int) + 1).toNat = a' + 1 by omega]
      refine ⟨.int (0 + i), rfl, _, 3, rfl, rfl, (by show (0 : Int) < 3; decide), by show 2 ≤ sizeLine; decide, fun l3 n3 => ?_⟩
      refine ⟨.int cu, rfl, .inl ⟨l3, _, cu, .int (mk cu i), rfl, rfl, .inl (.inl upd_same), mk_at u0 u1, _, rfl, .inr (.inr ⟨SX.S (bl.drop (a' + 1)), rfl, ?_, ?_⟩)⟩⟩
      · rw [SX.S_len, List.length_drop, sizeLine_eq]; omega
      rw [SX.slice_to (by omega), Int.toNat_natCast]
      have g3' := same_new (o := .lst [V.int 8, V.int ((0 + (i : Int)) % 3)]) n3 _ _ g3
      have g2' := g2.same (same_new (o := .lst [V.int 8, V.int ((0 + (i : Int)) % 3)]) n3)
      have g1' := g1.new (o := .lst [V.int 8, V.int ((0 + (i : Int)) % 3)]) n3
      have hs25 : sp ≤ 25 := steps_le hsp
      refine ⟨.ref lf, rfl, .inl ⟨rfl, _, .inl (.inl g3')⟩, ?_⟩
      refine ⟨.str (SX.S bl), rfl, .int a', rfl, _, rfl, .inr (.inr ⟨SX.S bl, rfl, hlen8, ?_⟩)⟩
      rw [SX.slice_to (by omega), Int.toNat_natCast]
      refine ⟨.str lettersZ, rfl, .int fi', rfl, .int sp, rfl, .int (0 + i), rfl, .inl ⟨by omega, by omega⟩, _, 26, rfl, rfl, (by show (0 : Int) < 26; decide), ?_⟩
      refine .inr (.inr ⟨lettersZ, _, 97 + (fi' + sp * i) % 26, rfl, rfl, by decide +kernel, ?_, ?_⟩)
      · refine at_in (j := (fi' + sp * i) % 26) ?_ (letters_at _ (Nat.mod_lt _ (by decide)))
        rw [Int.zero_add]
        push_cast
        rfl
      refine ⟨?_, .str (SX.S ((bl.drop (a' + 1)).take (mk cu i))), rfl, ?_, ?_⟩
      · show (SX.S (bl.take a')).length + (SX.S [97 + (fi' + sp * i) % 26]).length ≤ sizeLine
        rw [SX.S_len, SX.S_len, List.length_take, sizeLine_eq]
        show _ + 1 ≤ _
        omega
      · show (SX.S (bl.take a') ++ SX.S [97 + (fi' + sp * i) % 26]).length + (SX.S ((bl.drop (a' + 1)).take (mk cu i))).length ≤ sizeLine
        rw [SX.S_cat, SX.S_len, SX.S_len, List.length_append, List.length_take, List.length_take, List.length_drop, sizeLine_eq]
        show _ + 1 + _ ≤ _
        omega
      refine ⟨lf, _, _, rfl, rfl, g3', ?_, ?_⟩
      · rw [List.length_map, List.length_range]; exact small1000000 (by omega)
      refine ⟨_, _, rfl, ?_, g2'.wr hp zf, ?_⟩
      · intro b o nb e
        have : b ≠ lf := fun z => by rw [z, zf] at e; cases e
        rw [upd_ne this]
        exact g1' _ _ nb e
      · rw [upd_same, List.range_succ, List.map_append]
        have e : SX.S (bl.take a') ++ SX.S [97 + (fi' + sp * i) % 26] ++ SX.S ((bl.drop (a' + 1)).take (mk cu i)) = SX.S (nmAt bl a' fi' sp i (mk cu i)) := by
          rw [SX.S_cat, SX.S_cat]
          unfold nmAt
          rw [List.append_assoc]
          rfl
        exact congrArg (fun z => some (HO.lst (_ ++ [V.str z]))) e
    obtain ⟨d5, d12, rfl, g1, g2, g3⟩ := pv
    rw [Int.toNat_natCast] at g3
    have good : ∃ xs : List Str, xs.length = many ∧ xs.Nodup ∧ (∀ x ∈ xs, NameOk x) ∧ (∀ x ∈ xs, a' + 1 ≤ x.length) ∧ G lf = some (.lst (xs.map V.str)) := by
      refine ⟨(List.range many).map fun k => SX.S (nmAt bl a' fi' sp k (mk cu k)), by rw [List.length_map, List.length_range], ?_, ?_, ?_, by rw [List.map_map]; exact g3⟩
      · refine nodup_range fun i j hi hj e => ?_
        exact nmAt_inj (by omega) hsp (by omega) (by omega) (SX.S_inj e)
      · intro x hx
        obtain ⟨k, _, rfl⟩ := List.mem_map.mp hx
        exact name_S (nmAt_name (by omega) b8 c2)
      · intro x hx
        obtain ⟨k, _, rfl⟩ := List.mem_map.mp hx
        rw [SX.S_len]
        exact (nmAt_len (by omega)).1
    clear g3
    obtain ⟨xs, x1, x2, x3, x4, x5⟩ := good
    refine ⟨fun σ G' => ∃ (d5 d12 : Option V) (ys : List Str), σ = [some (.ref p), some (.int many), none, none, some (.str lettersZ), d5, some (.str (SX.S bl)), some (.int (a' : Int)), some (.int (fi' : Int)), some (.int cu), some (.int (sp : Int)), some (.ref lf), d12] ∧ Kp p H G' ∧ Pen K G' p qc (n + 20) ∧ ys.length = many ∧ ys.Nodup ∧ (∀ x ∈ ys, NameOk x) ∧ G' lf = some (.lst (ys.map V.str)), ?_, ?_⟩
    · refine ⟨.int a', rfl, _, 0, rfl, rfl, _, rfl, ite2 (fun e1 => ?_) (fun e1 => iteF ⟨_, _, xs, rfl, g1, g2.le (by omega), x1, x2, x3, x5⟩)⟩
      have e3 := of_decide_eq_true e1
      refine ⟨.ref p, rfl, p, qc, 3, n + 15, rfl, g2, by omega, by decide, by decide, fun d3 G3 d30 d31 k3 p3 => .inl ⟨rfl, _, rfl, ite2 (fun e2 => ?_) (fun e2 => ⟨_, _, xs, rfl, g1.trans k3, p3.le (by omega), x1, x2, x3, k3 _ _ of' x5⟩)⟩⟩
      refine ⟨.str (SX.S bl), rfl, .int a', rfl, _, rfl, .inr (.inr ⟨SX.S bl, rfl, by rw [elen, sizeLine_eq]; omega, ?_⟩)⟩
      rw [SX.slice_to (by omega), Int.toNat_natCast]
      refine ⟨.ref lf, rfl, .ref p, rfl, .int many, rfl, p, qc, many, n + 16, rfl, p3, by omega, by omega, by omega, fun d4 G4 d40 d41 k4 p4 => ?_⟩
      have x6 := k4 _ _ of' (k3 _ _ of' x5)
      refine ⟨lf, _, d4, d4.toNat, rfl, rfl, x6, ?_, ?_⟩
      · rw [List.length_map, x1]
        unfold ixN
        rw [if_pos d40, if_pos d41]
      have hn1 : IsName (bl.take a') := by
        refine ⟨by rw [List.length_take]; omega, by rw [List.length_take]; omega, fun c hc => c2 _ (List.mem_of_mem_take hc)⟩
      have hn2 : SX.S (bl.take a') ∉ xs := fun hm => by
        have := x4 _ hm
        rw [SX.S_len, List.length_take] at this
        omega
      refine ⟨_, _, xs.set d4.toNat (SX.S (bl.take a')), rfl, ?_, ?_, by rw [List.length_set]; exact x1, nodup_set x2 hn2, ?_, ?_⟩
      · intro b o nb e
        have : b ≠ lf := fun z => by rw [z, zf] at e; cases e
        rw [upd_ne this]
        exact k4 _ _ nb (k3 _ _ nb (g1 _ _ nb e))
      · exact (p4.wr hp zf).le (by omega)
      · intro x hx
        rcases List.mem_or_eq_of_mem_set hx with hx | rfl
        · exact x3 _ hx
        · exact name_S hn1
      · rw [upd_same, List.map_set]
    · rintro σ' G' ⟨d5, d12, ys, rfl, h1, h2, h3, h4, h5, h6⟩
      exact ⟨.ref lf, rfl, q lf ys G' h3 h4 h5 zf h6 of' h1 h2⟩
end
end Wd

set_option Elab.async false
set_option linter.all false
set_option maxRecDepth 100000
set_option maxHeartbeats 4000000
namespace Wd
open PySem PySem.Spec PyProof.Rows L2
abbrev s__law_bent_lots : Stmt := topS 12
theorem sc__law_bent_lots : FnScope ["pen", "count", "good", "bad", "lot", "some", "rows", "which", "at", "row", "k"] ["pen", "count", "good", "bad"] (C8.fnScope s__law_bent_lots) := ⟨rfl, rfl, rfl, by decide +kernel, rfl, by decide +kernel, by decide +kernel⟩
section
variable {P : Program} {w : World} {K : PySem.W.Frag} {mg : Str → Option Value} {base : Heap}
def pairL (w : Nat) (x y : V) : List V := if w = 0 then [x, y] else [y, x]
theorem pairL_len {w : Nat} {x y : V} : (pairL w x y).length = 2 := by unfold pairL; split <;> rfl
theorem pairL_at {w : Nat} {x y : V} (h : w < 2) : atI (pairL w x y) (w : Int) = some x := by
  have : w = 0 ∨ w = 1 := by omega
  rcases this with rfl | rfl <;> rfl
theorem cut_one (xs : List V) (k : Nat) : cutV xs (some (k : Int)) (some ((k : Int) + 1)) = (xs.drop k).take 1 := by
  unfold cutV
  rw [show ((k : Int) + 1) = ((k + 1 : Nat) : Int) from rfl, HT.sIx_nat, HT.sIx_nat]
  by_cases c : k < xs.length
  · rw [Nat.min_eq_left (by omega), Nat.min_eq_left (by omega), show k + 1 - k = 1 by omega]
  · rw [Nat.min_eq_right (by omega), Nat.min_eq_right (by omega), List.drop_length, List.take_nil, List.drop_eq_nil_of_le (by omega), List.take_nil]
theorem pairL_ix {w : Nat} {x y : V} (h : w < 2) : ixN (pairL w x y).length (w : Int) = some w := by
  have : w = 0 ∨ w = 1 := by omega
  rcases this with rfl | rfl <;> rfl
theorem pairL_set {w : Nat} {x y z : V} (h : w < 2) : (pairL w x y).set w z = pairL w z y := by
  have : w = 0 ∨ w = 1 := by omega
  rcases this with rfl | rfl <;> rfl
theorem pairL_ne {w : Nat} {x y : Addr} {gs : List Nat} : pairL w (.ref x) (.ref y) ≠ gs.map natV := fun e => by
  unfold pairL at e
  split at e <;> (cases gs with
    | nil => cases e
    | cons g gs => cases e)
theorem natV_eq {a b : Nat} (e : natV a = .int (b : Int)) : a = b := by
  have e : (a : Int) = (b : Int) := by injection e
  exact_mod_cast e
theorem nat_of {r m : Int} (h0 : 0 ≤ r) (h1 : r < m) : ∃ k : Nat, V.int r = natV k ∧ (k : Int) < m := by
  obtain ⟨k, rfl⟩ := Int.eq_ofNat_of_zero_le h0
  exact ⟨k, rfl, h1⟩
/-- two rows of numbers, the chosen one first -/
structure RowsSt (K : PySem.W.Frag) (p : Addr) (qc : Addr × List Int) (m w len n : Nat) (X : List Nat → Prop) (H Z : Hp) (rl : Addr) : Prop where
  kp : Kp p H Z
  pen : Pen K Z p qc n
  nr : H rl = none
  rows : ∃ (a b : Addr) (gs bs : List Nat), Z rl = some (.lst (pairL w (.ref a) (.ref b))) ∧ Z a = some (.lst (gs.map natV)) ∧ Z b = some (.lst (bs.map natV)) ∧ H a = none ∧ H b = none ∧ a ≠ b ∧ (∀ g ∈ gs, g < 2 ^ m) ∧ (∀ g ∈ bs, g < 2 ^ m) ∧ gs.length ≤ len ∧ bs.length ≤ len ∧ X gs
theorem RowsSt.le {K : PySem.W.Frag} {p : Addr} {qc : Addr × List Int} {m w len len' n n' : Nat} {X : List Nat → Prop} {H Z : Hp} {rl : Addr} (h : RowsSt K p qc m w len n X H Z rl) (h1 : len ≤ len') (h2 : n ≤ n') : RowsSt K p qc m w len' n' X H Z rl := by
  obtain ⟨k, pen, nr, a, b, gs, bs, e1, e2, e3, n1, n2, ab, g1, g2, l1, l2, x⟩ := h
  exact ⟨k, pen.le h2, nr, a, b, gs, bs, e1, e2, e3, n1, n2, ab, g1, g2, Nat.le_trans l1 h1, Nat.le_trans l2 h1, x⟩
/-- another row is put in the chosen one's place -/
theorem RowsSt.put {K : PySem.W.Frag} {p : Addr} {qc : Addr × List Int} {m w len n n0 : Nat} {X : List Nat → Prop} {H Z : Hp} {rl b c : Addr} {gs bs : List Nat} (hp : Pen K H p qc n0) (kp : Kp p H Z) (pen : Pen K Z p qc n) (nr : H rl = none) (e2 : Z c = some (.lst (gs.map natV))) (e3 : Z b = some (.lst (bs.map natV))) (nc : H c = none) (nb : H b = none) (cb : c ≠ b) (rc : rl ≠ c) (rb : rl ≠ b)
    (g1 : ∀ g ∈ gs, g < 2 ^ m) (g2 : ∀ g ∈ bs, g < 2 ^ m) (l1 : gs.length ≤ len) (l2 : bs.length ≤ len) (x : X gs) : RowsSt K p qc m w len n X H (upd Z rl (.lst (pairL w (.ref c) (.ref b)))) rl :=
  ⟨fun u o np e => by
      rw [upd_ne (fun z => by rw [z, nr] at e; cases e)]
      exact kp u o np e, pen.wr hp nr, nr, c, b, gs, bs, upd_same, by rw [upd_ne rc.symm]; exact e2, by rw [upd_ne rb.symm]; exact e3, nc, nb, cb, g1, g2, l1, l2, x⟩
def spBentL (K : PySem.W.Frag) : Sp := fun vs H Q _ => ∃ (p gl bl : Addr) (qc : Addr × List Int) (n m : Nat) (gs bs : List Nat), vs = [.ref p, natV (2 ^ m), .ref gl, .ref bl] ∧ Pen K H p qc n ∧ n + 60 < 1000000 ∧ m ≤ 6 ∧ H gl = some (.lst (gs.map natV)) ∧ (∀ g ∈ gs, g < 2 ^ m) ∧ gs.length ≤ 64 ∧ H bl = some (.lst (bs.map natV)) ∧ (∀ g ∈ bs, g < 2 ^ m) ∧ bs.length ≤ 64 ∧
  ∀ (r a b : Addr) (gs' bs' : List Nat) (H' : Hp), Kp p H H' → Pen K H' p qc (n + 60) → H' r = some (.lst [.ref a, .ref b]) → H' a = some (.lst (gs'.map natV)) → H' b = some (.lst (bs'.map natV)) → (∀ g ∈ gs', g < 2 ^ m) → (∀ g ∈ bs', g < 2 ^ m) → gs'.length ≤ 100 → bs'.length ≤ 100 → a ≠ p → b ≠ p → Q (.ref r) H'
theorem c_bentL {c : CA} (T : Txt P w K mg base c) (c_law_draw : C8.Cal P w K mg base 1 "_law_draw" (spDraw K) []) {f : Addr} {fd : FuncData} (F : C8.Def K mg "_law_bent_lots" s__law_bent_lots f fd) (b : Binds K fd ["pen", "count", "good", "bad"] []) : C8.Cal P w K mg base 2 "_law_bent_lots" (spBentL K) [] := by
  refine C8.cal0 F b .nil sc__law_bent_lots (fun vs H Q E h => ?_) (fun cdv A outer s H vs Q E hr h => ?_)
  · obtain ⟨p, gl, bl, qc, n, m, gs, bs, rfl, _⟩ := h
    rfl
  · obtain ⟨p, gl, bl, qc, n, m, gs, bs, rfl, hp, hn, h6, eg, hg, lg, eb, hb, lb, q⟩ := h
    have hu := hu_of hr
    have hu6 := hu64 hr
    refine ⟨_, (C8.pss_cut (ps_asg (pe_tup (pa_cons (C8.pe_c c_law_draw hr (by decide) (by rfl) (pa_cons (pv 0) (pa_cons pe_int pa_nil))) (pa_cons (C8.pe_c c_law_draw hr (by decide) (by rfl) (pa_cons (pv 0) (pa_cons (pv 1) pa_nil))) pa_nil))) (pg_tupK (K := K) (n := 2) rfl (pgs_cons (pg_name (i := 4) sc__law_bent_lots.nd rfl (.inl rfl)) (pgs_cons (pg_name (i := 5) sc__law_bent_lots.nd rfl (.inr rfl)) pgs_nil))))
  (C8.pss_cut (ps_set (i := 6) sc__law_bent_lots.nd rfl (.inl rfl) (pe_lst (pa_cons (pe_callTy (call_list_of) (by rfl) T.b_list bt_list (pa_cons (pv 2) pa_nil)) (pa_cons (pe_callTy (call_list_of) (by rfl) T.b_list bt_list (pa_cons (pv 3) pa_nil)) pa_nil))))
  (C8.pss_cut (ps_set (i := 7) sc__law_bent_lots.nd rfl (.inl rfl) (C8.pe_c c_law_draw hr (by decide) (by rfl) (pa_cons (pv 0) (pa_cons pe_int pa_nil))))
  (C8.pss_cut (ps_set (i := 8) sc__law_bent_lots.nd rfl (.inl rfl) (C8.pe_c c_law_draw hr (by decide) (by rfl) (pa_cons (pv 0) (pa_cons (pe_callB (call_max2 rfl) (by rfl) T.b_max bt_max (pa_cons pe_int (pa_cons (pe_callB (call_lenG (K := K)) (by rfl) T.b_len bt_len (pa_cons (pe_ix (ixG (K := K)) (pv 6) (pv 7) (fun _ _ => rfl)) pa_nil)) pa_nil))) pa_nil))))
  (C8.pss_cut (ps_if (pt_cmpR (op_eqX (K := K) hu6) (pv 4) pe_int (nomark _)) (pss_one (ps_asg (pe_op (op_addG (K := K)) (pe_slice (sl_any (K := K)) (pe_ix (ixG (K := K)) (pv 6) (pv 7) (fun _ _ => rfl)) po_none (po_some (pv 8))) (pe_slice (sl_any (K := K)) (pe_ix (ixG (K := K)) (pv 6) (pv 7) (fun _ _ => rfl)) (po_some (pe_op (op_addG (K := K)) (pv 8) pe_int)) po_none)) (pg_sub (pv 6) (pv 7) set_list))) pss_nil)
  (C8.pss_cut (ps_if (pt_cmpR (op_eqX (K := K) hu6) (pv 4) pe_int (nomark _)) (pss_one (ps_asg (pe_op (op_addG (K := K)) (pe_ix (ixG (K := K)) (pv 6) (pv 7) (fun _ _ => rfl)) (pe_slice (sl_any (K := K)) (pe_ix (ixG (K := K)) (pv 6) (pv 7) (fun _ _ => rfl)) (po_some (pv 8)) (po_some (pe_op (op_addG (K := K)) (pv 8) pe_int)))) (pg_sub (pv 6) (pv 7) set_list))) pss_nil)
  (C8.pss_cut (ps_if (pt_cmpR (op_eqX (K := K) hu6) (pv 4) pe_int (nomark _)) (pss_one (ps_asg (pe_op (op_addG (K := K)) (pe_ix (ixG (K := K)) (pv 6) (pv 7) (fun _ _ => rfl)) (pe_lst (pa_cons (pv 5) pa_nil))) (pg_sub (pv 6) (pv 7) set_list))) pss_nil)
  (C8.pss_cut (ps_if (pt_cmpR (op_eqX (K := K) hu6) (pv 4) pe_int (nomark _)) (pss_one (ps_asg (pe_op (op_addG (K := K)) (pe_lc (own := [("row", 9)]) rfl sc__law_bent_lots.nd (pi_listK (K := K) (pe_ix (ixG (K := K)) (pv 6) (pv 7) (fun _ _ => rfl))) (blkOk_by (by kernel_rfl)) (fun _ _ _ _ _ => (pg_name (i := 9) sc__law_bent_lots.nd rfl (.inl rfl))) (fun _ _ _ _ _ => (pts_one (pt_cmpR (op_neX (K := K) hu6) (pv 9) (pv 5) (nomark _))))
      (fun _ _ _ _ _ => (pv 9))) (pe_lst (pa_cons (C8.pe_c c_law_draw hr (by decide) (by rfl) (pa_cons (pv 0) (pa_cons (pv 1) pa_nil))) pa_nil))) (pg_sub (pv 6) (pv 7) set_list))) pss_nil)
  (C8.pss_cut (ps_if (pt_cmpR (op_eqX (K := K) hu6) (pv 4) pe_int (nomark _)) (pss_one (ps_set (i := 6) sc__law_bent_lots.nd rfl (.inl rfl) (pe_lst (pa_cons (pe_ix (ixG (K := K)) (pv 6) pe_int (fun _ _ => rfl)) (pa_cons (pe_ix (ixG (K := K)) (pv 6) pe_int (fun _ _ => rfl)) pa_nil))))) pss_nil)
  (C8.pss_cut (ps_if (pt_cmpR (op_eqX (K := K) hu6) (pv 4) pe_int (nomark _)) (pss_one (ps_setLc (i := 6) rfl sc__law_bent_lots.nd rfl rfl (sw_true rfl rfl rfl (by decide +kernel)) (own := [("row", 9)]) (pi_listK (K := K) (pv 6)) (blkOk_by (by kernel_rfl)) (fun _ _ _ _ _ => (pg_name (i := 9) sc__law_bent_lots.nd rfl (.inl rfl))) (fun _ _ _ _ _ => pts_nil)
      (fun _ _ _ _ _ => (pe_lc (own := [("k", 10)]) rfl sc__law_bent_lots.nd (pi_range1 rfl T.b_range (pa_cons (C8.pe_c c_law_draw hr (by decide) (by rfl) (pa_cons (pv 0) (pa_cons pe_int pa_nil))) pa_nil)) (blkOk_by (by kernel_rfl)) (fun _ _ _ _ _ => (pg_name (i := 10) sc__law_bent_lots.nd rfl (.inl rfl))) (fun _ _ _ _ _ => pts_nil)
      (fun _ _ _ _ _ => (C8.pe_c c_law_draw hr (by decide) (by rfl) (pa_cons (pv 0) (pa_cons (pv 1) pa_nil)))))))) pss_nil)
  (C8.pss_cut (ps_if (PW.pt (pw_and (pt_cmpR (op_eqX (K := K) hu6) (pv 4) pe_int (nomark _)) (pw_and1 (pt_cmpR (op_neX (K := K) hu6) (pe_ix (ixG (K := K)) (pv 6) (pv 7) (fun _ _ => rfl)) (pe_lst pa_nil) (nomark _))))) (pss_one (ps_asg (pe_op (op_mod) (pe_op (op_xor) (pe_ix (ixG (K := K)) (pe_ix (ixG (K := K)) (pv 6) (pv 7) (fun _ _ => rfl)) (pv 8) (fun _ _ => rfl)) (pe_ix (ixG (K := K)) (pe_lst (pa_cons pe_int (pa_cons pe_int (pa_cons pe_int (pa_cons pe_int (pa_cons pe_int (pa_cons pe_int pa_nil))))))) (C8.pe_c c_law_draw hr (by decide) (by rfl) (pa_cons (pv 0) (pa_cons pe_int pa_nil))) (fun _ _ => rfl))) (pv 1)) (pg_sub (pe_ix (ixG (K := K)) (pv 6) (pv 7) (fun _ _ => rfl)) (pv 8) set_list))) pss_nil)
  (pss_one (ps_ret (pv 6)))))))))))))), ?_⟩
    have p6 := pow_le64 h6
    have pp : 0 < 2 ^ m := Nat.pow_pos (by decide)
    have gp : gl ≠ p := fun e => by
      obtain ⟨t, r, e2, _⟩ := id hp
      rw [e, e2] at eg
      cases eg
    have bp : bl ≠ p := fun e => by
      obtain ⟨t, r, e2, _⟩ := id hp
      rw [e, e2] at eb
      cases eb
    -- two draws
    refine ⟨fun σ Z => ∃ lot som : Nat, σ = [some (.ref p), some (natV (2 ^ m)), some (.ref gl), some (.ref bl), some (natV lot), some (natV som), none, none, none, none, none] ∧ Kp p H Z ∧ Pen K Z p qc (n + 2) ∧ som < 2 ^ m, ?_, ?_⟩
    · refine ⟨.ref p, rfl, p, qc, 7, n, rfl, hp, by omega, by decide, by decide, fun d1 Z1 a1 a2 k1 pen1 => ?_⟩
      refine ⟨.ref p, rfl, natV (2 ^ m), rfl, p, qc, ((2 ^ m : Nat) : Int), n + 1, rfl, pen1, by omega, by omega, by omega, fun d2 Z2 b1 b2 k2 pen2 => ?_⟩
      obtain ⟨lot, e1, _⟩ := nat_of a1 a2
      obtain ⟨som, e2, hs⟩ := nat_of b1 b2
      rw [e1, e2]
      refine ⟨by show 2 ≤ sizeLine; decide, fun t nt => ⟨t, _, rfl, .inl (.inl upd_same), rfl, _, _, rfl, _, _, rfl, rfl, ?_⟩⟩
      exact ⟨lot, som, rfl, (k1.trans k2).new nt, pen2.same (same_new nt), by exact_mod_cast hs⟩
    rintro σ1 G1 ⟨lot, som, rfl, k1, pen1, hsom⟩
    -- the rows
    refine ⟨fun σ Z => ∃ (rl a b : Addr), σ = [some (.ref p), some (natV (2 ^ m)), some (.ref gl), some (.ref bl), some (natV lot), some (natV som), some (.ref rl), none, none, none, none] ∧ Kp p H Z ∧ Pen K Z p qc (n + 2) ∧ H rl = none ∧ Z rl = some (.lst [.ref a, .ref b]) ∧ Z a = some (.lst (gs.map natV)) ∧ Z b = some (.lst (bs.map natV)) ∧ H a = none ∧ H b = none ∧ a ≠ b, ?_, ?_⟩
    · have eg1 := k1 _ _ gp eg
      have eb1 := k1 _ _ bp eb
      have frH : ∀ {Z : Hp} {l : Addr}, Kp p H Z → Pen K Z p qc (n + 2) → Z l = none → H l = none := fun {Z l} k pz nl => by
        cases e : H l with
        | none => rfl
        | some o =>
          have := k l o (pz.off nl) e
          rw [nl] at this
          cases this
      refine ⟨.ref gl, rfl, gl, _, rfl, .inl (.inl (.inl eg1)), fun a na => ?_⟩
      have s1 := same_new na (o := .lst (gs.map natV))
      have ea : (upd G1 a (.lst (gs.map natV))) a = some (.lst (gs.map natV)) := upd_same
      have ka : Kp p H (upd G1 a (.lst (gs.map natV))) := k1.new na
      have pa := pen1.same s1
      have eb1 := s1 _ _ eb1
      have ha := frH k1 pen1 na
      generalize upd G1 a (.lst (gs.map natV)) = Ga at s1 ea ka pa eb1
      refine ⟨.ref bl, rfl, bl, _, rfl, .inl (.inl (.inl eb1)), fun b nb => ?_⟩
      have s2 := same_new nb (o := .lst (bs.map natV))
      have ebb : (upd Ga b (.lst (bs.map natV))) b = some (.lst (bs.map natV)) := upd_same
      have kb : Kp p H (upd Ga b (.lst (bs.map natV))) := ka.new nb
      have pb := pa.same s2
      have hbn := frH ka pa nb
      have ab : a ≠ b := fun e => by rw [e, nb] at ea; cases ea
      have ea := s2 _ _ ea
      generalize upd Ga b (.lst (bs.map natV)) = Gb at s2 ebb kb pb ea
      refine ⟨by show 2 ≤ sizeLine; decide, fun rl nr => ?_⟩
      have s3 := same_new nr (o := .lst [.ref a, .ref b])
      exact ⟨rl, a, b, rfl, kb.new nr, pb.same s3, frH kb pb nr, upd_same, s3 _ _ ea, s3 _ _ ebb, ha, hbn, ab⟩
    rintro σ2 G2 ⟨rl, a, b, rfl, k2, pen2, nr, er, ea, ebb, na, nb, ab⟩
    clear k1 pen1
    refine ⟨fun σ Z => ∃ w : Nat, σ = [some (.ref p), some (natV (2 ^ m)), some (.ref gl), some (.ref bl), some (natV lot), some (natV som), some (.ref rl), some (natV w), none, none, none] ∧ w < 2 ∧ RowsSt K p qc m w 64 (n + 3) (fun _ => True) H Z rl, ?_, ?_⟩
    · refine ⟨.ref p, rfl, p, qc, 2, n + 2, rfl, pen2, by omega, by decide, by decide, fun d Z d0 d1 kZ penZ => ?_⟩
      obtain ⟨w, ew, hw⟩ := nat_of d0 d1
      rw [ew]
      have nap := fun {l : Addr} (h : H l = none) => hp.off h
      have hw2 : w < 2 := by omega
      refine ⟨w, rfl, hw2, k2.trans kZ, penZ, nr, ?_⟩
      have : w = 0 ∨ w = 1 := by omega
      rcases this with rfl | rfl
      · exact ⟨a, b, gs, bs, kZ _ _ (nap nr) er, kZ _ _ (nap na) ea, kZ _ _ (nap nb) ebb, na, nb, ab, hg, hb, lg, lb, trivial⟩
      · exact ⟨b, a, bs, gs, kZ _ _ (nap nr) er, kZ _ _ (nap nb) ebb, kZ _ _ (nap na) ea, nb, na, ab.symm, hb, hg, lb, lg, trivial⟩
    rintro σ3 G3 ⟨w, rfl, hw, st⟩
    clear k2 pen2 nr er ea ebb na nb ab
    have ixR : ∀ {rl : Addr} {Z : Hp} {x y : V} {Q2 : VK}, Z rl = some (.lst (pairL w x y)) → Q2 x Z → rIx K (.ref rl) (natV w) Z Q2 := fun e q => .inl ⟨_, _, _, _, rfl, rfl, .inl (.inl e), pairL_at hw, q⟩
    have frH : ∀ {Z : Hp} {l : Addr} {n' : Nat}, Kp p H Z → Pen K Z p qc n' → Z l = none → H l = none := fun {Z l n'} k pz nl => by
      cases e : H l with
      | none => rfl
      | some o =>
        have := k l o (pz.off nl) e
        rw [nl] at this
        cases this
    refine ⟨fun σ Z => ∃ at_ : Nat, σ = [some (.ref p), some (natV (2 ^ m)), some (.ref gl), some (.ref bl), some (natV lot), some (natV som), some (.ref rl), some (natV w), some (natV at_), none, none] ∧ RowsSt K p qc m w 64 (n + 4) (fun gs => lot = 6 → gs ≠ [] → at_ < gs.length) H Z rl, ?_, ?_⟩
    · obtain ⟨kp, pen, nr, a, b, gs, bs, er, ea, eb, na, nb, ab, g1, g2, l1, l2, xg⟩ := st
      have lmG : (gs.map natV).length = gs.length := List.length_map _
      refine ⟨.ref p, rfl, .ref rl, rfl, natV w, rfl, ixR er (.inl ⟨_, .inl (.inl (.inl ea)), _, _, rfl, ?_⟩)⟩
      rw [lmG]
      refine ⟨p, qc, _, n + 3, rfl, pen, by omega, by split <;> omega, by split <;> omega, fun d Z d0 d1 kZ penZ => ?_⟩
      obtain ⟨at_, ew, ha⟩ := nat_of d0 d1
      rw [ew]
      refine ⟨at_, rfl, kp.trans kZ, penZ, nr, a, b, gs, bs, kZ _ _ (hp.off nr) er, kZ _ _ (hp.off na) ea, kZ _ _ (hp.off nb) eb, na, nb, ab, g1, g2, l1, l2, fun _ hne => ?_⟩
      have : gs.length ≠ 0 := fun z => hne (List.length_eq_zero_iff.mp z)
      split at ha <;> omega
    rintro σ4 G4 ⟨at_, rfl, st⟩
    have lmG : ∀ gs : List Nat, (gs.map natV).length = gs.length := fun gs => List.length_map _
    -- lot 0
    refine ⟨fun σ Z => σ = [some (.ref p), some (natV (2 ^ m)), some (.ref gl), some (.ref bl), some (natV lot), some (natV som), some (.ref rl), some (natV w), some (natV at_), none, none] ∧ RowsSt K p qc m w 65 (n + 4) (fun gs => lot = 6 → gs ≠ [] → at_ < gs.length) H Z rl, ?_, ?_⟩
    · by_cases c : lot = 0
      rotate_left
      · exact ⟨natV lot, rfl, .inl ⟨rfl, _, rfl, iteN (fun e => c (natV_eq (b := 0) e)) ⟨rfl, st.le (by decide) (by omega)⟩⟩⟩
      refine ⟨natV lot, rfl, .inl ⟨rfl, _, rfl, iteY (by rw [c]; rfl) ?_⟩⟩
      obtain ⟨kp, pen, nr, a, b, gs, bs, er, ea, eb, na, nb, ab, g1, g2, l1, l2, xg⟩ := st
      have x6 : ∀ gs : List Nat, lot = 6 → gs ≠ [] → at_ < gs.length := fun _ e => absurd e (by omega)
      have rne : ∀ {Z : Hp} {l : Addr} {xs : List Nat}, Z rl = some (.lst (pairL w (.ref a) (.ref b))) → Z l = some (.lst (xs.map natV)) → rl ≠ l := fun e1 e2 z => by
        rw [z, e2] at e1
        injection e1 with e1
        injection e1 with e1
        exact pairL_ne e1.symm
      refine ⟨.ref rl, rfl, natV w, rfl, ixR er ⟨natV at_, rfl, _, rfl, .inl ⟨a, _, rfl, .inl (.inl ea), fun l3 n3 => ?_⟩⟩⟩
      rw [cutV_to (by exact Int.natCast_nonneg _), Int.toNat_natCast, ← List.map_take]
      have s_A3 := same_new n3 (o := .lst ((gs.take at_).map natV))
      have e_A3 : (upd G4 l3 (.lst ((gs.take at_).map natV))) l3 = some (.lst ((gs.take at_).map natV)) := upd_same
      have er := s_A3 _ _ er
      have ea := s_A3 _ _ ea
      have eb := s_A3 _ _ eb
      have h_l3 := frH kp pen n3
      have kp : Kp p H (upd G4 l3 (.lst ((gs.take at_).map natV))) := kp.new n3
      have pen := pen.same s_A3
      generalize upd G4 l3 (.lst ((gs.take at_).map natV)) = A3 at e_A3 er ea eb kp pen 
      refine ⟨.ref rl, rfl, natV w, rfl, ixR er ⟨natV at_, rfl, _, rfl, .inl ⟨a, _, rfl, .inl (.inl ea), fun l4 n4 => ?_⟩⟩⟩
      rw [cutV_from (by omega), ← List.map_drop, show ((at_ : Int) + 1).toNat = at_ + 1 by omega]
      have s_A4 := same_new n4 (o := .lst ((gs.drop (at_ + 1)).map natV))
      have e_A4 : (upd A3 l4 (.lst ((gs.drop (at_ + 1)).map natV))) l4 = some (.lst ((gs.drop (at_ + 1)).map natV)) := upd_same
      have er := s_A4 _ _ er
      have ea := s_A4 _ _ ea
      have eb := s_A4 _ _ eb
      have e_A3 := s_A4 _ _ e_A3
      have h_l4 := frH kp pen n4
      have kp : Kp p H (upd A3 l4 (.lst ((gs.drop (at_ + 1)).map natV))) := kp.new n4
      have pen := pen.same s_A4
      generalize upd A3 l4 (.lst ((gs.drop (at_ + 1)).map natV)) = A4 at e_A4 er ea eb kp pen e_A3
      refine .inl ⟨l3, l4, _, _, rfl, rfl, e_A3, e_A4, by rw [lmG, lmG, List.length_take, List.length_drop, sizeLine_eq]; omega, fun cl nc => ?_⟩
      rw [← List.map_append]
      have cbl : cl ≠ b := fun z => by rw [z, eb] at nc; cases nc
      have s_A5 := same_new nc (o := .lst ((gs.take at_ ++ gs.drop (at_ + 1)).map natV))
      have e_A5 : (upd A4 cl (.lst ((gs.take at_ ++ gs.drop (at_ + 1)).map natV))) cl = some (.lst ((gs.take at_ ++ gs.drop (at_ + 1)).map natV)) := upd_same
      have er := s_A5 _ _ er
      have ea := s_A5 _ _ ea
      have eb := s_A5 _ _ eb
      have h_cl := frH kp pen nc
      have kp : Kp p H (upd A4 cl (.lst ((gs.take at_ ++ gs.drop (at_ + 1)).map natV))) := kp.new nc
      have pen := pen.same s_A5
      generalize upd A4 cl (.lst ((gs.take at_ ++ gs.drop (at_ + 1)).map natV)) = A5 at e_A5 er ea eb kp pen 
      refine ⟨.ref rl, rfl, natV w, rfl, rl, _, _, w, rfl, rfl, er, pairL_ix hw, ?_⟩
      rw [pairL_set hw]
      refine ⟨rfl, RowsSt.put hp kp pen nr e_A5 eb h_cl nb cbl (rne er e_A5) (rne er eb) (fun g hg => ?_) g2 (by rw [List.length_append, List.length_take, List.length_drop]; omega) (by omega) (x6 _)⟩
      rcases List.mem_append.mp hg with hg | hg
      · exact g1 g (List.mem_of_mem_take hg)
      · exact g1 g (List.mem_of_mem_drop hg)
    rintro σ5 G5 ⟨rfl, st⟩
    -- lot 1
    refine ⟨fun σ Z => σ = [some (.ref p), some (natV (2 ^ m)), some (.ref gl), some (.ref bl), some (natV lot), some (natV som), some (.ref rl), some (natV w), some (natV at_), none, none] ∧ RowsSt K p qc m w 66 (n + 4) (fun gs => lot = 6 → gs ≠ [] → at_ < gs.length) H Z rl, ?_, ?_⟩
    · by_cases c : lot = 1
      rotate_left
      · exact ⟨natV lot, rfl, .inl ⟨rfl, _, rfl, iteN (fun e => c (natV_eq (b := 1) e)) ⟨rfl, st.le (by decide) (by omega)⟩⟩⟩
      refine ⟨natV lot, rfl, .inl ⟨rfl, _, rfl, iteY (by rw [c]; rfl) ?_⟩⟩
      obtain ⟨kp, pen, nr, a, b, gs, bs, er, ea, eb, na, nb, ab, g1, g2, l1, l2, xg⟩ := st
      have x6 : ∀ gs : List Nat, lot = 6 → gs ≠ [] → at_ < gs.length := fun _ e => absurd e (by omega)
      have rne : ∀ {Z : Hp} {l : Addr} {xs : List Nat}, Z rl = some (.lst (pairL w (.ref a) (.ref b))) → Z l = some (.lst (xs.map natV)) → rl ≠ l := fun e1 e2 z => by
        rw [z, e2] at e1
        injection e1 with e1
        injection e1 with e1
        exact pairL_ne e1.symm
      refine ⟨.ref rl, rfl, natV w, rfl, ixR er ⟨.ref rl, rfl, natV w, rfl, ixR er ⟨natV at_, rfl, _, rfl, natV at_, rfl, _, rfl, .inl ⟨a, _, rfl, .inl (.inl ea), fun l3 n3 => ?_⟩⟩⟩⟩
      rw [cut_one, ← List.map_drop, ← List.map_take]
      have s_A3 := same_new n3 (o := .lst (((gs.drop at_).take 1).map natV))
      have e_A3 : (upd G5 l3 (.lst (((gs.drop at_).take 1).map natV))) l3 = some (.lst (((gs.drop at_).take 1).map natV)) := upd_same
      have er := s_A3 _ _ er
      have ea := s_A3 _ _ ea
      have eb := s_A3 _ _ eb
      have h_l3 := frH kp pen n3
      have kp : Kp p H (upd G5 l3 (.lst (((gs.drop at_).take 1).map natV))) := kp.new n3
      have pen := pen.same s_A3
      generalize upd G5 l3 (.lst (((gs.drop at_).take 1).map natV)) = A3 at e_A3 er ea eb kp pen 
      refine .inl ⟨a, l3, _, _, rfl, rfl, ea, e_A3, by rw [lmG, lmG, List.length_take, List.length_drop, sizeLine_eq]; omega, fun cl nc => ?_⟩
      rw [← List.map_append]
      have cbl : cl ≠ b := fun z => by rw [z, eb] at nc; cases nc
      have s_A5 := same_new nc (o := .lst ((gs ++ (gs.drop at_).take 1).map natV))
      have e_A5 : (upd A3 cl (.lst ((gs ++ (gs.drop at_).take 1).map natV))) cl = some (.lst ((gs ++ (gs.drop at_).take 1).map natV)) := upd_same
      have er := s_A5 _ _ er
      have ea := s_A5 _ _ ea
      have eb := s_A5 _ _ eb
      have h_cl := frH kp pen nc
      have kp : Kp p H (upd A3 cl (.lst ((gs ++ (gs.drop at_).take 1).map natV))) := kp.new nc
      have pen := pen.same s_A5
      generalize upd A3 cl (.lst ((gs ++ (gs.drop at_).take 1).map natV)) = A5 at e_A5 er ea eb kp pen 
      refine ⟨.ref rl, rfl, natV w, rfl, rl, _, _, w, rfl, rfl, er, pairL_ix hw, ?_⟩
      rw [pairL_set hw]
      refine ⟨rfl, RowsSt.put hp kp pen nr e_A5 eb h_cl nb cbl (rne er e_A5) (rne er eb) (fun g hg => ?_) g2 (by rw [List.length_append, List.length_take]; omega) (by omega) (x6 _)⟩
      rcases List.mem_append.mp hg with hg | hg
      · exact g1 g hg
      · exact g1 g (List.mem_of_mem_drop (List.mem_of_mem_take hg))
    rintro σ6 G6 ⟨rfl, st⟩
    -- lot 2
    refine ⟨fun σ Z => σ = [some (.ref p), some (natV (2 ^ m)), some (.ref gl), some (.ref bl), some (natV lot), some (natV som), some (.ref rl), some (natV w), some (natV at_), none, none] ∧ RowsSt K p qc m w 67 (n + 4) (fun gs => lot = 6 → gs ≠ [] → at_ < gs.length) H Z rl, ?_, ?_⟩
    · by_cases c : lot = 2
      rotate_left
      · exact ⟨natV lot, rfl, .inl ⟨rfl, _, rfl, iteN (fun e => c (natV_eq (b := 2) e)) ⟨rfl, st.le (by decide) (by omega)⟩⟩⟩
      refine ⟨natV lot, rfl, .inl ⟨rfl, _, rfl, iteY (by rw [c]; rfl) ?_⟩⟩
      obtain ⟨kp, pen, nr, a, b, gs, bs, er, ea, eb, na, nb, ab, g1, g2, l1, l2, xg⟩ := st
      have x6 : ∀ gs : List Nat, lot = 6 → gs ≠ [] → at_ < gs.length := fun _ e => absurd e (by omega)
      have rne : ∀ {Z : Hp} {l : Addr} {xs : List Nat}, Z rl = some (.lst (pairL w (.ref a) (.ref b))) → Z l = some (.lst (xs.map natV)) → rl ≠ l := fun e1 e2 z => by
        rw [z, e2] at e1
        injection e1 with e1
        injection e1 with e1
        exact pairL_ne e1.symm
      refine ⟨.ref rl, rfl, natV w, rfl, ixR er ⟨natV som, rfl, by show 1 ≤ sizeLine; decide, fun l3 n3 => ?_⟩⟩
      have s_A3 := same_new n3 (o := .lst ([natV som]))
      have e_A3 : (upd G6 l3 (.lst ([natV som]))) l3 = some (.lst ([natV som])) := upd_same
      have er := s_A3 _ _ er
      have ea := s_A3 _ _ ea
      have eb := s_A3 _ _ eb
      have h_l3 := frH kp pen n3
      have kp : Kp p H (upd G6 l3 (.lst ([natV som]))) := kp.new n3
      have pen := pen.same s_A3
      generalize upd G6 l3 (.lst ([natV som])) = A3 at e_A3 er ea eb kp pen 
      refine .inl ⟨a, l3, _, _, rfl, rfl, ea, e_A3, by rw [lmG, sizeLine_eq]; show gs.length + 1 ≤ _; omega, fun cl nc => ?_⟩
      have cbl : cl ≠ b := fun z => by rw [z, eb] at nc; cases nc
      have em : gs.map natV ++ [natV som] = (gs ++ [som]).map natV := by rw [List.map_append]; rfl
      rw [em]
      have s_A5 := same_new nc (o := .lst ((gs ++ [som]).map natV))
      have e_A5 : (upd A3 cl (.lst ((gs ++ [som]).map natV))) cl = some (.lst ((gs ++ [som]).map natV)) := upd_same
      have er := s_A5 _ _ er
      have ea := s_A5 _ _ ea
      have eb := s_A5 _ _ eb
      have h_cl := frH kp pen nc
      have kp : Kp p H (upd A3 cl (.lst ((gs ++ [som]).map natV))) := kp.new nc
      have pen := pen.same s_A5
      generalize upd A3 cl (.lst ((gs ++ [som]).map natV)) = A5 at e_A5 er ea eb kp pen 
      refine ⟨.ref rl, rfl, natV w, rfl, rl, _, _, w, rfl, rfl, er, pairL_ix hw, ?_⟩
      rw [pairL_set hw]
      refine ⟨rfl, RowsSt.put hp kp pen nr e_A5 eb h_cl nb cbl (rne er e_A5) (rne er eb) (fun g hg => ?_) g2 (by rw [List.length_append]; show gs.length + 1 ≤ _; omega) (by omega) (x6 _)⟩
      rcases List.mem_append.mp hg with hg | hg
      · exact g1 g hg
      · rw [List.mem_singleton.mp hg]; exact hsom
    rintro σ7 G7 ⟨rfl, st⟩
    -- lot 3
    refine ⟨fun σ Z => σ = [some (.ref p), some (natV (2 ^ m)), some (.ref gl), some (.ref bl), some (natV lot), some (natV som), some (.ref rl), some (natV w), some (natV at_), none, none] ∧ RowsSt K p qc m w 68 (n + 5) (fun gs => lot = 6 → gs ≠ [] → at_ < gs.length) H Z rl, ?_, ?_⟩
    · by_cases c : lot = 3
      rotate_left
      · exact ⟨natV lot, rfl, .inl ⟨rfl, _, rfl, iteN (fun e => c (natV_eq (b := 3) e)) ⟨rfl, st.le (by decide) (by omega)⟩⟩⟩
      refine ⟨natV lot, rfl, .inl ⟨rfl, _, rfl, iteY (by rw [c]; rfl) ?_⟩⟩
      obtain ⟨kp, pen, nr, a, b, gs, bs, er, ea, eb, na, nb, ab, g1, g2, l1, l2, xg⟩ := st
      have x6 : ∀ gs : List Nat, lot = 6 → gs ≠ [] → at_ < gs.length := fun _ e => absurd e (by omega)
      have rne : ∀ {Z : Hp} {l : Addr} {xs : List Nat}, Z rl = some (.lst (pairL w (.ref a) (.ref b))) → Z l = some (.lst (xs.map natV)) → rl ≠ l := fun e1 e2 z => by
        rw [z, e2] at e1
        injection e1 with e1
        injection e1 with e1
        exact pairL_ne e1.symm
      have kp0 := kp
      refine ⟨.ref rl, rfl, natV w, rfl, ixR er ⟨a, rfl, ⟨_, .inl (.inl ea)⟩, fun D nD => ?_⟩⟩
      refine lc_it (walk_list (a := a) (xs := gs.map natV)) (fun i Z => Same G7 Z ∧ Z D = some (.lst (((gs.take i).filter fun g => !decide (g = som)).map natV))) ⟨same_new nD, upd_same⟩ (fun i Z _ pv => .inl (.inl (pv.1 _ _ ea))) (fun i y Z Z' hi pv hy => ?_) (fun Z pv => ?_)
      · obtain ⟨rfl, hv⟩ := hy
        obtain ⟨sZ, z1⟩ := pv
        rw [List.getElem?_map] at hv
        obtain ⟨g, hg1, rfl⟩ := Option.map_eq_some_iff.mp hv
        rw [take_snoc hg1, List.filter_append, List.map_append]
        refine ⟨rfl, natV g, by kernel_rfl, natV som, by kernel_rfl, .inl ⟨rfl, _, rfl, ?_⟩⟩
        by_cases c2 : g = som
        · rw [decide_eq_true (p := natV g = natV som) (by rw [c2])]
          refine iteF ⟨sZ, ?_⟩
          rw [List.filter_cons_of_neg (by simp [c2]), List.filter_nil, List.map_nil, List.append_nil]
          exact z1
        · rw [decide_eq_false (p := natV g = natV som) (fun e => c2 (natV_eq e))]
          refine iteT ⟨natV g, by kernel_rfl, _, z1, by rw [lmG, sizeLine_eq]; exact Nat.lt_of_le_of_lt (List.length_filter_le _ _) (by rw [List.length_take]; omega), same_mut sZ nD, ?_⟩
          rw [upd_same, List.filter_cons_of_pos (by simp [c2]), List.filter_nil]
          rfl
      obtain ⟨sZ, eD⟩ := pv
      rw [lmG, List.take_length] at eD
      have fl := List.length_filter_le (fun g => !decide (g = som)) gs
      have fg : ∀ g ∈ gs.filter fun g => !decide (g = som), g < 2 ^ m := fun g hg => g1 g (List.mem_filter.mp hg).1
      generalize gs.filter (fun g => !decide (g = som)) = fs at eD fl fg
      have er := sZ _ _ er
      have ea := sZ _ _ ea
      have eb := sZ _ _ eb
      have kp : Kp p H Z := fun u o np e => sZ _ _ (kp u o np e)
      have hD := frH kp0 pen nD
      have pen := pen.same sZ
      refine ⟨.ref p, rfl, natV (2 ^ m), rfl, p, qc, ((2 ^ m : Nat) : Int), n + 4, rfl, pen, by omega, by omega, by omega, fun d Z2 d0 d1 k4 pen4 => ?_⟩
      obtain ⟨nw, ew, hnw⟩ := nat_of d0 d1
      rw [ew]
      have er := k4 _ _ (hp.off nr) er
      have ea := k4 _ _ (hp.off na) ea
      have eb := k4 _ _ (hp.off nb) eb
      have eD := k4 _ _ (hp.off hD) eD
      have kp := kp.trans k4
      have pen := pen4
      refine ⟨by show 1 ≤ sizeLine; decide, fun l3 n3 => ?_⟩
      have s_A3 := same_new n3 (o := .lst ([natV nw]))
      have e_A3 : (upd Z2 l3 (.lst ([natV nw]))) l3 = some (.lst ([natV nw])) := upd_same
      have er := s_A3 _ _ er
      have ea := s_A3 _ _ ea
      have eb := s_A3 _ _ eb
      have eD := s_A3 _ _ eD
      have h_l3 := frH kp pen n3
      have kp : Kp p H (upd Z2 l3 (.lst ([natV nw]))) := kp.new n3
      have pen := pen.same s_A3
      generalize upd Z2 l3 (.lst ([natV nw])) = A3 at e_A3 er ea eb kp pen eD
      refine .inl ⟨D, l3, _, _, rfl, rfl, eD, e_A3, by rw [lmG, sizeLine_eq]; show fs.length + 1 ≤ _; omega, fun cl nc => ?_⟩
      have cbl : cl ≠ b := fun z => by rw [z, eb] at nc; cases nc
      have em : fs.map natV ++ [natV nw] = (fs ++ [nw]).map natV := by rw [List.map_append]; rfl
      rw [em]
      have s_A5 := same_new nc (o := .lst ((fs ++ [nw]).map natV))
      have e_A5 : (upd A3 cl (.lst ((fs ++ [nw]).map natV))) cl = some (.lst ((fs ++ [nw]).map natV)) := upd_same
      have er := s_A5 _ _ er
      have ea := s_A5 _ _ ea
      have eb := s_A5 _ _ eb
      have h_cl := frH kp pen nc
      have kp : Kp p H (upd A3 cl (.lst ((fs ++ [nw]).map natV))) := kp.new nc
      have pen := pen.same s_A5
      generalize upd A3 cl (.lst ((fs ++ [nw]).map natV)) = A5 at e_A5 er ea eb kp pen 
      refine ⟨.ref rl, rfl, natV w, rfl, rl, _, _, w, rfl, rfl, er, pairL_ix hw, ?_⟩
      rw [pairL_set hw]
      refine ⟨rfl, RowsSt.put hp kp pen nr e_A5 eb h_cl nb cbl (rne er e_A5) (rne er eb) (fun g hg => ?_) g2 (by rw [List.length_append]; show fs.length + 1 ≤ _; omega) (by omega) (x6 _)⟩
      rcases List.mem_append.mp hg with hg | hg
      · exact fg g hg
      · rw [List.mem_singleton.mp hg]; exact_mod_cast hnw
    rintro σ8 G8 ⟨rfl, st⟩
    -- lot 4
    refine ⟨fun σ Z => ∃ rl : Addr, σ = [some (.ref p), some (natV (2 ^ m)), some (.ref gl), some (.ref bl), some (natV lot), some (natV som), some (.ref rl), some (natV w), some (natV at_), none, none] ∧ RowsSt K p qc m w 68 (n + 5) (fun gs => lot = 6 → gs ≠ [] → at_ < gs.length) H Z rl, ?_, ?_⟩
    · by_cases c : lot = 4
      rotate_left
      · exact ⟨natV lot, rfl, .inl ⟨rfl, _, rfl, iteN (fun e => c (natV_eq (b := 4) e)) ⟨rl, rfl, st.le (by decide) (by omega)⟩⟩⟩
      refine ⟨natV lot, rfl, .inl ⟨rfl, _, rfl, iteY (by rw [c]; rfl) ?_⟩⟩
      obtain ⟨kp, pen, nr, a, b, gs, bs, er, ea, eb, na, nb, ab, g1, g2, l1, l2, xg⟩ := st
      have x6 : ∀ gs : List Nat, lot = 6 → gs ≠ [] → at_ < gs.length := fun _ e => absurd e (by omega)
      have rne : ∀ {Z : Hp} {l : Addr} {xs : List Nat}, Z rl = some (.lst (pairL w (.ref a) (.ref b))) → Z l = some (.lst (xs.map natV)) → rl ≠ l := fun e1 e2 z => by
        rw [z, e2] at e1
        injection e1 with e1
        injection e1 with e1
        exact pairL_ne e1.symm
      have at1 : ∃ x y : Addr, atI (pairL w (.ref a) (.ref b)) 1 = some (.ref x) ∧ atI (pairL w (.ref a) (.ref b)) 0 = some (.ref y) ∧ [V.ref x, V.ref y] = pairL w (.ref b) (.ref a) := by
        have : w = 0 ∨ w = 1 := by omega
        rcases this with rfl | rfl
        · exact ⟨b, a, rfl, rfl, rfl⟩
        · exact ⟨a, b, rfl, rfl, rfl⟩
      obtain ⟨x1, x2, h1, h2, h3⟩ := at1
      refine ⟨.ref rl, rfl, .inl ⟨rl, _, 1, _, rfl, rfl, .inl (.inl er), h1, .ref rl, rfl, .inl ⟨rl, _, 0, _, rfl, rfl, .inl (.inl er), h2, by show 2 ≤ sizeLine; decide, fun r2 n2 => ?_⟩⟩⟩
      rw [h3]
      have s_A3 := same_new n2 (o := .lst (pairL w (.ref b) (.ref a)))
      have e_A3 : (upd G8 r2 (.lst (pairL w (.ref b) (.ref a)))) r2 = some (.lst (pairL w (.ref b) (.ref a))) := upd_same
      have er := s_A3 _ _ er
      have ea := s_A3 _ _ ea
      have eb := s_A3 _ _ eb
      have h_r2 := frH kp pen n2
      have kp : Kp p H (upd G8 r2 (.lst (pairL w (.ref b) (.ref a)))) := kp.new n2
      have pen := pen.same s_A3
      generalize upd G8 r2 (.lst (pairL w (.ref b) (.ref a))) = A3 at e_A3 er ea eb kp pen 
      exact ⟨r2, rfl, kp, pen, h_r2, b, a, bs, gs, e_A3, eb, ea, nb, na, ab.symm, g2, g1, l2, l1, x6 _⟩
    rintro σ9 G9 ⟨rl, rfl, st⟩
    -- lot 5
    refine ⟨fun σ Z => ∃ rl : Addr, σ = [some (.ref p), some (natV (2 ^ m)), some (.ref gl), some (.ref bl), some (natV lot), some (natV som), some (.ref rl), some (natV w), some (natV at_), none, none] ∧ RowsSt K p qc m w 68 (n + 20) (fun gs => lot = 6 → gs ≠ [] → at_ < gs.length) H Z rl, ?_, ?_⟩
    · by_cases c : lot = 5
      rotate_left
      · exact ⟨natV lot, rfl, .inl ⟨rfl, _, rfl, iteN (fun e => c (natV_eq (b := 5) e)) ⟨rl, rfl, st.le (by decide) (by omega)⟩⟩⟩
      refine ⟨natV lot, rfl, .inl ⟨rfl, _, rfl, iteY (by rw [c]; rfl) ?_⟩⟩
      obtain ⟨kp, pen, nr, a, b, gs, bs, er, ea, eb, na, nb, ab, g1, g2, l1, l2, xg⟩ := st
      have x6 : ∀ gs : List Nat, lot = 6 → gs ≠ [] → at_ < gs.length := fun _ e => absurd e (by omega)
      have rne : ∀ {Z : Hp} {l : Addr} {xs : List Nat}, Z rl = some (.lst (pairL w (.ref a) (.ref b))) → Z l = some (.lst (xs.map natV)) → rl ≠ l := fun e1 e2 z => by
        rw [z, e2] at e1
        injection e1 with e1
        injection e1 with e1
        exact pairL_ne e1.symm
      refine ⟨.ref rl, rfl, rl, rfl, ⟨_, .inl (.inl er)⟩, fun D nD => ?_⟩
      have hD := frH kp pen nD
      have pl : (pairL w (V.ref a) (.ref b)).length = 2 := pairL_len
      refine lc_it (walk_list (a := rl) (xs := pairL w (.ref a) (.ref b))) (fun i Z => Kp p G9 Z ∧ Pen K Z p qc (n + 5 + 7 * i) ∧ ∃ rs : List Addr, Z D = some (.lst (rs.map V.ref)) ∧ rs.length = i ∧ rs.Nodup ∧ ∀ r ∈ rs, H r = none ∧ r ≠ D ∧ ∃ gs : List Nat, Z r = some (.lst (gs.map natV)) ∧ gs.length ≤ 5 ∧ ∀ g ∈ gs, g < 2 ^ m)
        ⟨fun u o _ e => same_new nD _ _ e, pen.same (same_new nD), [], upd_same, rfl, List.nodup_nil, fun _ z => nomatch z⟩ (fun i Z _ pv => .inl (.inl (pv.1 _ _ (hp.off nr) er))) (fun i y Z Z' hi pv hy => ?_) (fun Z pv => ?_)
      · obtain ⟨rfl, hv⟩ := hy
        obtain ⟨kZ, penZ, rs, eD, lrs, nds, hrs⟩ := pv
        rw [pl] at hi
        have kpZ := kp.trans kZ
        refine ⟨rfl, yes_if ⟨.ref p, by kernel_rfl, p, qc, 6, n + 5 + 7 * i, rfl, penZ, by omega, by decide, by decide, fun dd Z1 d0 d1 k1 pen1 => ⟨dd, rfl, by omega, by omega, fun D2 nD2 => ?_⟩⟩⟩
        have d5 : dd.toNat ≤ 5 := by omega
        generalize dd.toNat = nd at d5
        have hD2 := frH (kpZ.trans k1) pen1 nD2
        have D2D : D2 ≠ D := fun z => by
          rw [z, k1 _ _ (hp.off hD) eD] at nD2
          cases nD2
        refine lc_it (walk_range (lo := 0) (n := nd)) (fun j Y => Kp p Z1 Y ∧ Pen K Y p qc (n + 5 + 7 * i + 1 + j) ∧ ∃ gs : List Nat, Y D2 = some (.lst (gs.map natV)) ∧ gs.length = j ∧ ∀ g ∈ gs, g < 2 ^ m) ⟨fun u o _ e => same_new nD2 _ _ e, pen1.same (same_new nD2), [], upd_same, rfl, fun _ z => nomatch z⟩ (fun k Y _ pv => trivial) (fun j yv Y Y' hj pv hy => ?_) (fun Y pv => ?_)
        · obtain ⟨kY, penY, gs, eY, lgs, bgs⟩ := pv
          obtain ⟨rfl, rfl⟩ := hy
          refine ⟨rfl, yes_if ⟨.ref p, by kernel_rfl, natV (2 ^ m), by kernel_rfl, p, qc, ((2 ^ m : Nat) : Int), n + 5 + 7 * i + 1 + j, rfl, penY, by omega, by omega, by omega, fun d Y2 e0 e1 k2 pen2 => ?_⟩⟩
          obtain ⟨nw, ew, hnw⟩ := nat_of e0 e1
          rw [ew]
          have eY2 := k2 _ _ (hp.off hD2) eY
          refine ⟨_, eY2, by rw [lmG, sizeLine_eq]; omega, fun u o np e => ?_, pen2.wr hp hD2, gs ++ [nw], by rw [upd_same, List.map_append]; rfl, by rw [List.length_append, lgs]; rfl, fun g hg => ?_⟩
          · rw [upd_ne (fun z => by rw [z, nD2] at e; cases e)]
            exact k2 u o np (kY u o np e)
          · rcases List.mem_append.mp hg with hg | hg
            · exact bgs g hg
            · rw [List.mem_singleton.mp hg]; exact_mod_cast hnw
        · obtain ⟨kY, penY, gs, eY, lgs, bgs⟩ := pv
          have k0Y := k1.trans kY
          have eDY := k0Y _ _ (hp.off hD) eD
          refine ⟨_, eDY, by rw [List.length_map, sizeLine_eq]; omega, fun u o np e => ?_, (penY.wr hp hD).le (by omega), rs ++ [D2], by rw [upd_same, List.map_append]; rfl, by rw [List.length_append, lrs]; rfl, ?_, fun r hr => ?_⟩
          · rw [upd_ne (fun z => by rw [z, nD] at e; cases e)]
            exact k0Y u o np (kZ u o np e)
          · rw [List.nodup_append]
            refine ⟨nds, by simp, fun x hx y hy e => ?_⟩
            rw [List.mem_singleton.mp hy] at e
            obtain ⟨h1, h2, gs3, e3, _⟩ := hrs x hx
            rw [e] at e3
            have := k1 _ _ (hp.off hD2) e3
            rw [nD2] at this
            cases this
          · rcases List.mem_append.mp hr with hr | hr
            · obtain ⟨h1, h2, gs3, e3, r3⟩ := hrs r hr
              exact ⟨h1, h2, gs3, by rw [upd_ne h2]; exact k0Y _ _ (hp.off h1) e3, r3⟩
            · rw [List.mem_singleton.mp hr]
              exact ⟨hD2, D2D, gs, by rw [upd_ne D2D]; exact eY, by omega, bgs⟩
      · obtain ⟨kZ, penZ, rs, eD, lrs, nds, hrs⟩ := pv
        rw [pl] at lrs penZ
        match rs, lrs with
        | [x1, x2], _ =>
          have nx : x1 ≠ x2 := fun e => by
            rw [e] at nds
            simp at nds
          obtain ⟨h1, _, q1, e1, b1, c1⟩ := hrs x1 (by simp)
          obtain ⟨h2, _, q2, e2, b2, c2⟩ := hrs x2 (by simp)
          have : w = 0 ∨ w = 1 := by omega
          rcases this with rfl | rfl
          · exact ⟨D, rfl, kp.trans kZ, penZ.le (by omega), hD, x1, x2, q1, q2, eD, e1, e2, h1, h2, nx, c1, c2, by omega, by omega, x6 _⟩
          · exact ⟨D, rfl, kp.trans kZ, penZ.le (by omega), hD, x2, x1, q2, q1, eD, e2, e1, h2, h1, nx.symm, c2, c1, by omega, by omega, x6 _⟩
    rintro σ10 G10 ⟨rl, rfl, st⟩
    -- lot 6
    refine ⟨fun σ Z => σ = [some (.ref p), some (natV (2 ^ m)), some (.ref gl), some (.ref bl), some (natV lot), some (natV som), some (.ref rl), some (natV w), some (natV at_), none, none] ∧ RowsSt K p qc m w 68 (n + 21) (fun gs => lot = 6 → gs ≠ [] → at_ < gs.length) H Z rl, ?_, ?_⟩
    · by_cases c : lot = 6
      rotate_left
      · exact ⟨natV lot, rfl, .inl ⟨rfl, _, rfl, iteN (fun e => c (natV_eq (b := 6) e)) (iteF ⟨rfl, st.le (by decide) (by omega)⟩)⟩⟩
      refine ⟨natV lot, rfl, .inl ⟨rfl, _, rfl, iteY (by rw [c]; rfl) ?_⟩⟩
      obtain ⟨kp, pen, nr, a, b, gs, bs, er, ea, eb, na, nb, ab, g1, g2, l1, l2, xg⟩ := st
      have rne : ∀ {Z : Hp} {l : Addr} {xs : List Nat}, Z rl = some (.lst (pairL w (.ref a) (.ref b))) → Z l = some (.lst (xs.map natV)) → rl ≠ l := fun e1 e2 z => by
        rw [z, e2] at e1
        injection e1 with e1
        injection e1 with e1
        exact pairL_ne e1.symm
      refine ⟨.ref rl, rfl, natV w, rfl, ixR er ⟨by show 0 ≤ sizeLine; decide, fun e0 n0 => ?_⟩⟩
      have s_A1 := same_new n0 (o := .lst ([]))
      have e_A1 : (upd G10 e0 (.lst ([]))) e0 = some (.lst ([])) := upd_same
      have er := s_A1 _ _ er
      have ea := s_A1 _ _ ea
      have eb := s_A1 _ _ eb
      have h_e0 := frH kp pen n0
      have kp : Kp p H (upd G10 e0 (.lst ([]))) := kp.new n0
      have pen := pen.same s_A1
      generalize upd G10 e0 (.lst ([])) = A1 at e_A1 er ea eb kp pen 
      refine ne_nats ea e_A1 ⟨_, rfl, ?_⟩
      by_cases hgs : gs = []
      · rw [show (!gs.isEmpty) = false by rw [hgs]; rfl]
        exact iteF ⟨rfl, kp, pen.le (by omega), nr, a, b, gs, bs, er, ea, eb, na, nb, ab, g1, g2, l1, l2, xg⟩
      have iem : (!gs.isEmpty) = true := by
        cases gs with
        | nil => exact absurd rfl hgs
        | cons => rfl
      rw [iem]
      have hat := xg c hgs
      refine iteT ?_
      obtain ⟨gv, hgv⟩ : ∃ gv, gs[at_]? = some gv := ⟨_, List.getElem?_eq_getElem hat⟩
      refine ⟨.ref rl, rfl, natV w, rfl, ixR er ⟨natV at_, rfl, .inl ⟨a, _, _, natV gv, rfl, rfl, .inl (.inl ea), atI_in (j := at_) rfl (by rw [List.getElem?_map, hgv]; rfl), by show 6 ≤ sizeLine; decide, fun l3 n3 => ?_⟩⟩⟩
      have s_A3 := same_new n3 (o := .lst ([V.int 1, V.int 2, V.int 4, V.int 8, V.int 16, V.int 32]))
      have e_A3 : (upd A1 l3 (.lst ([V.int 1, V.int 2, V.int 4, V.int 8, V.int 16, V.int 32]))) l3 = some (.lst ([V.int 1, V.int 2, V.int 4, V.int 8, V.int 16, V.int 32])) := upd_same
      have er := s_A3 _ _ er
      have ea := s_A3 _ _ ea
      have eb := s_A3 _ _ eb
      have h_l3 := frH kp pen n3
      have kp : Kp p H (upd A1 l3 (.lst ([V.int 1, V.int 2, V.int 4, V.int 8, V.int 16, V.int 32]))) := kp.new n3
      have pen := pen.same s_A3
      generalize upd A1 l3 (.lst ([V.int 1, V.int 2, V.int 4, V.int 8, V.int 16, V.int 32])) = A3 at e_A3 er ea eb kp pen 
      refine ⟨.ref p, rfl, p, qc, 6, n + 20, rfl, pen, by omega, by decide, by decide, fun d Z d0 d1 kZ penZ => ?_⟩
      obtain ⟨dk, ek, hdk⟩ := nat_of d0 d1
      have at6 : ∃ z : Int, atI [V.int 1, V.int 2, V.int 4, V.int 8, V.int 16, V.int 32] (dk : Int) = some (.int z) := by
        have : dk = 0 ∨ dk = 1 ∨ dk = 2 ∨ dk = 3 ∨ dk = 4 ∨ dk = 5 := by omega
        rcases this with rfl | rfl | rfl | rfl | rfl | rfl <;> exact ⟨_, rfl⟩
      obtain ⟨z6, hz6⟩ := at6
      have er := kZ _ _ (hp.off nr) er
      have ea := kZ _ _ (hp.off na) ea
      have eb := kZ _ _ (hp.off nb) eb
      have e3 := kZ _ _ (hp.off h_l3) e_A3
      rw [ek]
      refine .inl ⟨l3, _, _, _, rfl, rfl, .inl (.inl e3), hz6, _, _, rfl, rfl, natV (2 ^ m), rfl, _, _, rfl, rfl, by omega, ?_⟩
      have m0 := Int.emod_nonneg (Builtin.bitXor (gv : Int) z6) (show (((2 ^ m : Nat) : Int)) ≠ 0 by omega)
      have m1 := Int.emod_lt_of_pos (Builtin.bitXor (gv : Int) z6) (show (0 : Int) < ((2 ^ m : Nat) : Int) by omega)
      obtain ⟨nw, ew, hnw⟩ := nat_of m0 m1
      dsimp only
      rw [ew]
      refine ⟨.ref rl, rfl, natV w, rfl, ixR er ⟨natV at_, rfl, a, _, _, at_, rfl, rfl, ea, ?_, ?_⟩⟩
      · rw [lmG]
        exact ixN_nat hat
      have em : (gs.map natV).set at_ (natV nw) = (gs.set at_ nw).map natV := by rw [List.map_set]
      rw [em]
      refine ⟨rfl, fun u o np e => ?_, penZ.wr hp na |>.le (by omega), nr, a, b, gs.set at_ nw, bs, by rw [upd_ne (rne er ea)]; exact er, upd_same, by rw [upd_ne ab.symm]; exact eb, na, nb, ab, fun g hg => ?_, g2, by rw [List.length_set]; exact l1, l2, fun _ _ => by rw [List.length_set]; exact hat⟩
      · rw [upd_ne (fun z => by rw [z, na] at e; cases e)]
        exact kZ u o np (kp u o np e)
      · rcases List.mem_or_eq_of_mem_set hg with hg | rfl
        · exact g1 g hg
        · exact_mod_cast hnw
    rintro σ11 G11 ⟨rfl, st⟩
    obtain ⟨kp, pen, nr, a, b, gs, bs, er, ea, eb, na, nb, ab, g1, g2, l1, l2, xg⟩ := st
    have : w = 0 ∨ w = 1 := by omega
    rcases this with rfl | rfl
    · exact ⟨.ref rl, rfl, q rl a b gs bs G11 kp (pen.le (by omega)) er ea eb g1 g2 (by omega) (by omega) (hp.off na) (hp.off nb)⟩
    · exact ⟨.ref rl, rfl, q rl b a bs gs G11 kp (pen.le (by omega)) er eb ea g2 g1 (by omega) (by omega) (hp.off nb) (hp.off na)⟩
end
end Wd

set_option Elab.async false
set_option linter.all false
set_option maxRecDepth 100000
set_option maxHeartbeats 4000000
namespace Wd
open PySem PySem.Spec PyProof.Rows L2
abbrev s__law_shuffled : Stmt := topS 8
theorem sc__law_shuffled : FnScope ["pen", "some", "left", "found"] ["pen", "some"] (C8.fnScope s__law_shuffled) := ⟨rfl, rfl, rfl, by decide +kernel, rfl, by decide +kernel, by decide +kernel⟩
section
variable {P : Program} {w : World} {K : PySem.W.Frag} {mg : Str → Option Value} {base : Heap}
def spShuf (K : PySem.W.Frag) : Sp := fun vs H Q _ => ∃ (p a : Addr) (qc : Addr × List Int) (n : Nat) (ys : List V), vs = [.ref p, .ref a] ∧ Pen K H p qc n ∧ n + ys.length < 1000000 ∧ Src K H a ys ∧ (∀ y ∈ ys, ∃ d, Dq (· ≠ p) K H y d ∧ Plain d) ∧
  ∀ (l : Addr) (zs : List V) (H' : Hp), zs.Perm ys → H l = none → H' l = some (.lst zs) → l ≠ p → Kp p H H' → Pen K H' p qc (n + ys.length) → Q (.ref l) H'
theorem c_shuf {c : CA} (T : Txt P w K mg base c) (c_law_draw : C8.Cal P w K mg base 1 "_law_draw" (spDraw K) []) {f : Addr} {fd : FuncData} (F : C8.Def K mg "_law_shuffled" s__law_shuffled f fd) (b : Binds K fd ["pen", "some"] []) : C8.Cal P w K mg base 2 "_law_shuffled" (spShuf K) [] := by
  refine C8.cal0 F b .nil sc__law_shuffled (fun vs H Q E h => ?_) (fun cdv A outer s H vs Q E hr h => ?_)
  · obtain ⟨p, a, qc, n, ys, rfl, _⟩ := h
    rfl
  · obtain ⟨p, a, qc, n, ys, rfl, hp, hn, hs, hy, q⟩ := h
    have hu := hu_of hr
    have hu6 := hu64 hr
    refine ⟨_, (pss_cons (ps_par (i := 2) (j := 3) rfl sc__law_shuffled.nd rfl rfl (by decide) rfl rfl (pa_cons (pe_callTy (call_listG (K := K) rfl) (by rfl) T.b_list bt_list (pa_cons (pv 1) pa_nil)) (pa_cons (pe_lst pa_nil) pa_nil)) rfl)
  (pss_cons (ps_while PassesOwn.never (pt_cmpR (op_neX (K := K) hu6) (pv 2) (pe_lst pa_nil) (nomark _)) (pss_one (ps_expr (pe_bm PySem.F.plainAttrs_list PySem.F.slot_list_append PySem.F.type_list_append mt_append (pv 3) (pa_cons (pe_bm PySem.F.plainAttrs_list PySem.F.slot_list_pop PySem.F.type_list_pop mt_popAt (pv 2) (pa_cons (C8.pe_c c_law_draw hr (by decide) (by rfl) (pa_cons (pv 0) (pa_cons (pe_callB (call_lenG (K := K)) (by rfl) T.b_len bt_len (pa_cons (pv 2) pa_nil)) pa_nil))) pa_nil)) pa_nil)))))
  (pss_one (ps_ret (pv 3))))), ?_⟩
    refine ⟨.ref a, rfl, a, rfl, hs.list fun l1 n1 => ?_⟩
    have s1 := same_new n1 (o := .lst ys)
    refine ⟨Nat.zero_le _, fun l2 n2 => ⟨_, _, rfl, ?_⟩⟩
    have s2 := s1.trans (same_new n2 (o := .lst []))
    have e2 : (upd (upd H l1 (.lst ys)) l2 (.lst [])) l2 = some (.lst []) := upd_same
    have e1 : (upd (upd H l1 (.lst ys)) l2 (.lst [])) l1 = some (.lst ys) := same_new n2 _ _ upd_same
    have z2 : H l2 = none := s1.free n2
    have ne : l1 ≠ l2 := ne_of_none upd_same n2
    have op1 := hp.off n1
    have op2 := hp.off z2
    generalize upd (upd H l1 (.lst ys)) l2 (.lst []) = H0 at s2 e1 e2
    refine ⟨fun m σ H' => ∃ vl vf : List V, σ = [some (.ref p), some (.ref a), some (.ref l1), some (.ref l2)] ∧ m = vl.length ∧ (vl ++ vf).Perm ys ∧ H' l1 = some (.lst vl) ∧ H' l2 = some (.lst vf) ∧ Kp p H H' ∧ Pen K H' p qc (n + vf.length), ⟨ys.length, ys, [], rfl, rfl, by rw [List.append_nil], e1, e2, fun b o _ e => s2 b o e, hp.same s2⟩, ?_⟩
    rintro m σ H' ⟨vl, vf, rfl, rfl, pm, f1, f2, k, pp⟩
    refine ⟨.ref l1, rfl, Nat.zero_le _, fun l3 n3 => ?_⟩
    have s3 := same_new n3 (o := .lst [])
    have g1 := s3 _ _ f1
    have g2 := s3 _ _ f2
    have pp3 := pp.same s3
    have k3 : Kp p H (upd H' l3 (.lst [])) := k.new n3
    have g3 : (upd H' l3 (.lst [])) l3 = some (.lst []) := upd_same
    generalize upd H' l3 (.lst []) = H3 at g1 g2 g3 pp3 k3
    have hlen : vl.length + vf.length = ys.length := by
      have := pm.length_eq
      rwa [List.length_append] at this
    refine ne_nil (N := (· ≠ p)) (.inl (.inl g1)) (.inl (.inl g3)) (fun y hm => ?_) ⟨_, rfl, ?_⟩
    · obtain ⟨d, h1, h2⟩ := hy y (pm.subset (List.mem_append_left _ hm))
      exact ⟨d, h1.kp k3, h2⟩
    · cases vl with
      | nil =>
        refine iteF ⟨_, rfl, q l2 vf H3 (by simpa using pm) z2 g2 op2 k3 ?_⟩
        have hl : vf.length = ys.length := by simpa using hlen
        rw [← hl]
        exact pp3
      | cons v0 vr =>
        refine iteT ⟨fun σ' G => ∃ m', m' < (v0 :: vr).length ∧ ∃ vl vf : List V, σ' = [some (.ref p), some (.ref a), some (.ref l1), some (.ref l2)] ∧ m' = vl.length ∧ (vl ++ vf).Perm ys ∧ G l1 = some (.lst vl) ∧ G l2 = some (.lst vf) ∧ Kp p H G ∧ Pen K G p qc (n + vf.length), fun _ _ z => z, ?_⟩
        have hl2 : vr.length + 1 + vf.length = ys.length := by simpa using hlen
        refine ⟨.ref l2, rfl, .inl ⟨rfl, _, .inl (.inl g2)⟩, .ref l1, rfl, .inl ⟨rfl, _, .inl (.inl g1)⟩, ?_⟩
        refine ⟨.ref p, rfl, .ref l1, rfl, .inl ⟨v0 :: vr, .inl (.inl (.inl g1)), ?_⟩⟩
        refine ⟨p, qc, _, n + vf.length, rfl, pp3, by omega, by show (0 : Int) < ((v0 :: vr).length : Int); simp only [List.length_cons]; omega, small60 (by simp; omega), fun d H4 d0 d1 k4 pp4 => ?_⟩
        have hlt : d.toNat < (v0 :: vr).length := by omega
        have e1 : H4 l1 = some (.lst (v0 :: vr)) := k4 _ _ op1 g1
        have e2 : H4 l2 = some (.lst vf) := k4 _ _ op2 g2
        refine ⟨l1, v0 :: vr, d, d.toNat, (v0 :: vr)[d.toNat], rfl, rfl, e1, by omega, by simp at d1; omega, seqI d0 (by simpa using d1), List.getElem?_eq_getElem hlt, ?_⟩
        refine ⟨l2, vf, _, rfl, rfl, by rw [upd_ne ne.symm]; exact e2, small1000000 (by omega), ?_⟩
        have he : ((v0 :: vr).eraseIdx d.toNat).length = vr.length := by rw [List.length_eraseIdx_of_lt hlt]; simp
        refine ⟨_, ?_, (v0 :: vr).eraseIdx d.toNat, vf ++ [(v0 :: vr)[d.toNat]], rfl, rfl, ?_, by rw [upd_ne ne]; exact upd_same, upd_same, ?_, ?_⟩
        · rw [he]; simp
        · refine List.Perm.trans ?_ pm
          exact perm_move hlt
        · intro b o nb e
          have n1' : b ≠ l1 := fun z => by rw [z, n1] at e; cases e
          have n2' : b ≠ l2 := fun z => by rw [z, z2] at e; cases e
          rw [upd_ne n2', upd_ne n1']
          exact k4 _ _ nb (k3 _ _ nb e)
        · have : n + (vf ++ [(v0 :: vr)[d.toNat]]).length = n + vf.length + 1 := by simp; omega
          rw [this]
          exact (pp4.wr hp n1).wr hp z2
end
end Wd

set_option Elab.async false
set_option linter.all false
set_option maxRecDepth 100000
set_option maxHeartbeats 4000000
namespace Wd
open PySem PySem.Spec PyProof.Rows L2
abbrev s_law : Stmt := topS 14
theorem sc_law : FnScope ["script", "pen", "bout", "way", "names", "count", "seeds", "above", "below", "good", "bad", "due", "does", "fails", "told", "kept", "found", "k", "lot", "one"] ["script"] (C8.fnScope s_law) := ⟨rfl, rfl, rfl, by decide +kernel, rfl, by decide +kernel, by decide +kernel⟩
section
variable {P : Program} {w : World} {K : PySem.W.Frag} {mg : Str → Option Value} {base : Heap}
def spLaw (K : PySem.W.Frag) : Sp := fun vs H Q _ => ∃ (a : Addr) (L : List Int), vs = [.ref a] ∧ SqL K H a (L.map V.int) ∧ L.length ≤ 63 ∧ ∀ H', Q (.bl true) H'
theorem op_notInDK {X : Cx} {K : PySem.W.Frag} (hu : X.A.units + 65 < cLine) (hK : X.K = K := by rfl) : OpR X (compareOp .NotIn) (rNotInD K) := by
  subst hK
  exact op_notInD hu
theorem iteAny {c : Bool} {A B : Prop} (a : A) (b : B) : if c = true then A else B := by
  cases c
  · exact iteF b
  · exact iteT a
theorem pow_at {m : Nat} (h : m ≤ 6) : atI [V.int 1, V.int 2, V.int 4, V.int 8, V.int 16, V.int 32, V.int 64] ((m : Nat) : Int) = some (natV (2 ^ m)) := by
  have : m = 0 ∨ m = 1 ∨ m = 2 ∨ m = 3 ∨ m = 4 ∨ m = 5 ∨ m = 6 := by omega
  rcases this with rfl | rfl | rfl | rfl | rfl | rfl | rfl <;> rfl
theorem Pen.ne {K : PySem.W.Frag} {H : Hp} {p l : Addr} {q : Addr × List Int} {n : Nat} {xs : List V} (hp : Pen K H p q n) (e : H l = some (.lst xs)) : l ≠ p := fun z => by
  obtain ⟨t, r, e2, _⟩ := id hp
  rw [z, e2] at e
  cases e
theorem tup_dqL {K : PySem.W.Frag} {H : Hp} : ∀ {ws : List V} {ds : List (List Str)}, TupAll K H ws ds → DqAll anyA K H ws (ds.map fun d => .tuple (d.map .str))
  | _, _, .nil => .nil
  | _, _, .cons e q => .cons (.tup trivial e (DqAll.strs _)) (tup_dqL q)
theorem src_nats {rs : List Nat} {p : Addr} {K : PySem.W.Frag} {H : Hp} : ∀ y ∈ rs.map natV, ∃ d, Dq (· ≠ p) K H y d ∧ Plain d := fun y hy => by
  obtain ⟨r, _, rfl⟩ := List.mem_map.mp hy
  exact ⟨.int r, .int _, rfl, rfl, by simp [PyData.depth]⟩
theorem src_strs {xs : List Str} {p : Addr} {K : PySem.W.Frag} {H : Hp} (ok : ∀ x ∈ xs, NameOk x) : ∀ y ∈ xs.map V.str, ∃ d, Dq (· ≠ p) K H y d ∧ Plain d := fun y hy => by
  obtain ⟨x, hx, rfl⟩ := List.mem_map.mp hy
  exact ⟨.str x, .str _, rfl, by rw [PyData.canLay0]; exact (txt_name (ok x hx)).2.1, by simp [PyData.depth]⟩
def unV : V → Nat
  | .int i => i.toNat
  | _ => 0
def unS : V → Str
  | .str s => s
  | _ => Str.empty
theorem perm_back {α : Type} {f : α → V} {g : V → α} (fg : ∀ x, g (f x) = x) {zs : List V} {xs : List α} (h : zs.Perm (xs.map f)) : ∃ ys : List α, zs = ys.map f ∧ ys.Perm xs := by
  refine ⟨zs.map g, ?_, ?_⟩
  · rw [List.map_map]
    have : zs.map (f ∘ g) = zs.map id := List.map_congr_left fun z hz => by
      obtain ⟨x, _, rfl⟩ := List.mem_map.mp (h.subset hz)
      show f (g (f x)) = f x
      rw [fg]
    rw [this, List.map_id]
  · have := h.map g
    rw [List.map_map] at this
    have e : xs.map (g ∘ f) = xs.map id := List.map_congr_left fun x _ => fg x
    rwa [e, List.map_id] at this
theorem perm_nats {zs : List V} {gs : List Nat} (h : zs.Perm (gs.map natV)) : ∃ hs : List Nat, zs = hs.map natV ∧ hs.Perm gs := perm_back (f := natV) (g := unV) (fun x => Int.toNat_natCast x) h
theorem perm_strs {zs : List V} {xs : List Str} (h : zs.Perm (xs.map V.str)) : ∃ ys : List Str, zs = ys.map V.str ∧ ys.Perm xs := perm_back (f := V.str) (g := unS) (fun _ => rfl) h
theorem lot_ok {ns : List Str} {m g : Nat} (ok : ∀ x ∈ ns, NameOk x) (lm : ns.length = m) (h6 : m ≤ 6) (hg : g < 2 ^ m) : ∀ s ∈ lotS ns g, NameOk s := fun s hs => by
  have p6 := pow_le64 h6
  obtain ⟨k, hk, rfl⟩ := List.mem_map.mp hs
  have hl := bits_lt m (by omega) g (by omega) hg k hk
  have : ns.getD k Str.empty = ns[k] := by rw [List.getD_eq_getElem?_getD, List.getElem?_eq_getElem (by omega)]; rfl
  rw [this]
  exact ok _ (List.getElem_mem _)
theorem neat_lots {ns : List Str} {m : Nat} {gs : List Nat} (ok : ∀ x ∈ ns, NameOk x) (lm : ns.length = m) (h6 : m ≤ 6) (hg : ∀ g ∈ gs, g < 2 ^ m) (l : gs.length ≤ 100) : Neat 6400 2 (.list ((gs.map (lotS ns)).map fun d => .tuple (d.map .str))) := by
  refine (neat_lst (w := 54) (dp := 1) (m := 100) (fun d hd => ?_) (by rw [List.length_map, List.length_map]; exact l)).mono (by decide) (by decide)
  obtain ⟨e, he, rfl⟩ := List.mem_map.mp hd
  obtain ⟨g, hg1, rfl⟩ := List.mem_map.mp he
  refine (neat_tup (w := 8) (dp := 0) (m := 6) (fun q hq => ?_) (by rw [List.length_map]; exact lotS_len)).mono (by decide) (by decide)
  obtain ⟨s, hs, rfl⟩ := List.mem_map.mp hq
  exact neat_name (lot_ok ok lm h6 (hg g hg1) s hs)
def toldD (b : Bool) (xs : List Str) : PyData := if b then .list (xs.map PyData.str) else .tuple (xs.map PyData.str)
theorem toldD_neat {b : Bool} {xs : List Str} (ok : ∀ x ∈ xs, NameOk x) (l : xs.length ≤ 6) : Neat 54 1 (toldD b xs) := by
  unfold toldD
  cases b
  · refine (neat_tup (w := 8) (dp := 0) (m := 6) (fun q hq => ?_) (by rw [List.length_map]; exact l)).mono (by decide) (by decide)
    obtain ⟨s, hs, rfl⟩ := List.mem_map.mp hq
    exact neat_name (ok s hs)
  · exact neat_names ok l
theorem toldD_dq {K : PySem.W.Frag} {H : Hp} {a : Addr} : ∀ {b : Bool} {xs : List Str}, SqB K b H a (xs.map V.str) → Dq anyA K H (.ref a) (toldD b xs)
  | true, xs, e => .lst trivial e (DqAll.strs xs)
  | false, xs, e => .tup trivial e (DqAll.strs xs)
theorem c_law {c : CA} (T : Txt P w K mg base c) (hBool : mg "bool" = none) (c_law_pen : C8.Cal P w K mg base 1 "_law_pen" (spPen K) []) (c_law_draw : C8.Cal P w K mg base 1 "_law_draw" (spDraw K) []) (c_law_names : C8.Cal P w K mg base 3 "_law_names" (spNames K) []) (c_law_shuffled : C8.Cal P w K mg base 2 "_law_shuffled" (spShuf K) [])
    (c_law_bent_lots : C8.Cal P w K mg base 2 "_law_bent_lots" (spBentL K) []) (c_law_due : C8.Cal P w K mg base 1 "_law_due" spDueL []) (c_law_lot : C8.Cal P w K mg base 2 "_law_lot" (spLot K) []) (ccovers : C8.Cal P w K mg base 2 "covers" (spCovers K) [])
    {f : Addr} {fd : FuncData} (F : C8.Def K mg "law" s_law f fd) : FnG P w K mg base CX0 5 f fd ["script"] (spLaw K) := by
  refine fng F sc_law (fun vs H Q E h => ?_) (fun cdv A outer s H vs Q E hgd hr h => ?_)
  · obtain ⟨a, L, rfl, _⟩ := h
    rfl
  · obtain ⟨a, L, rfl, hs, hl, q⟩ := h
    have hu := hu_of hr
    have hu6 := hu64 hr
    have hu65 : (A.deeper (envOfC "law" (C8.fnScope s_law) s.heap.objs.size f cdv)).units + 65 < cLine := by
      have := hr.un
      omega
    refine ⟨_, (pss_cons (ps_set (i := 1) sc_law.nd rfl (.inr rfl) (C8.pe_c c_law_pen hr (by decide) (by rfl) (pa_cons (pv 0) pa_nil)))
  (pss_cons (ps_for PassesOwn.never rfl (pi_range1 rfl T.b_range (pa_cons pe_int pa_nil)) (pg_name (i := 2) sc_law.nd rfl (.inl rfl))
    (C8.pss_cut (ps_set (i := 3) sc_law.nd rfl (.inl rfl) (C8.pe_c c_law_draw hr (by decide) (by rfl) (pa_cons (pv 1) (pa_cons pe_int pa_nil))))
  (C8.pss_cut (ps_set (i := 4) sc_law.nd rfl (.inr rfl) (pe_callB (cr_sortG) (by rfl) T.b_sorted bt_sorted (pa_cons (pe_slice (sl_any (K := K)) (C8.pe_c c_law_names hr (by decide) (by rfl) (pa_cons (pv 1) (pa_cons pe_int pa_nil))) po_none (po_some (C8.pe_c c_law_draw hr (by decide) (by rfl) (pa_cons (pv 1) (pa_cons pe_int pa_nil))))) pa_nil)))
  (C8.pss_cut (ps_set (i := 5) sc_law.nd rfl (.inr rfl) (pe_ix (ixG (K := K)) (pe_lst (pa_cons pe_int (pa_cons pe_int (pa_cons pe_int (pa_cons pe_int (pa_cons pe_int (pa_cons pe_int (pa_cons pe_int pa_nil)))))))) (pe_callB (call_lenG (K := K)) (by rfl) T.b_len bt_len (pa_cons (pv 4) pa_nil)) (fun _ _ => rfl)))
  (C8.pss_cut (ps_set (i := 6) sc_law.nd rfl (.inr rfl) (pe_lc (own := [("k", 17)]) rfl sc_law.nd (pi_range1 rfl T.b_range (pa_cons (C8.pe_c c_law_draw hr (by decide) (by rfl) (pa_cons (pv 1) (pa_cons pe_int pa_nil))) pa_nil)) (blkOk_by (by kernel_rfl)) (fun _ _ _ _ _ => (pg_name (i := 17) sc_law.nd rfl (.inl rfl))) (fun _ _ _ _ _ => pts_nil)
      (fun _ _ _ _ _ => (C8.pe_c c_law_draw hr (by decide) (by rfl) (pa_cons (pv 1) (pa_cons (pv 5) pa_nil))))))
  (C8.pss_cut (ps_set (i := 7) sc_law.nd rfl (.inr rfl) (pe_lc (own := [("lot", 18)]) rfl sc_law.nd (pi_range1 rfl T.b_range (pa_cons (pv 5) pa_nil)) (blkOk_by (by kernel_rfl)) (fun _ _ _ _ _ => (pg_name (i := 18) sc_law.nd rfl (.inr rfl))) (fun _ _ _ _ _ => (pts_one (pt_cmpR (op_neX (K := K) hu6) (pe_lc (own := [("one", 19)]) rfl sc_law.nd (pi_listK (K := K) (pv 6)) (blkOk_by (by kernel_rfl)) (fun _ _ _ _ _ => (pg_name (i := 19) sc_law.nd rfl (.inl rfl))) (fun _ _ _ _ _ => (pts_one (pt_cmpR (op_eqX (K := K) hu6) (pe_op (op_and) (pv 19) (pv 18)) (pv 19) (nomark _))))
      (fun _ _ _ _ _ => (pv 19))) (pe_lst pa_nil) (nomark _))))
      (fun _ _ _ _ _ => (pv 18))))
  (C8.pss_cut (ps_set (i := 8) sc_law.nd rfl (.inr rfl) (pe_lc (own := [("lot", 18)]) rfl sc_law.nd (pi_range1 rfl T.b_range (pa_cons (pv 5) pa_nil)) (blkOk_by (by kernel_rfl)) (fun _ _ _ _ _ => (pg_name (i := 18) sc_law.nd rfl (.inl rfl))) (fun _ _ _ _ _ => (pts_one (pt_cmpR (op_notInDK (K := K) hu65) (pv 18) (pv 7) (by rfl))))
      (fun _ _ _ _ _ => (pv 18))))
  (C8.pss_cut (ps_setLc (i := 9) rfl sc_law.nd rfl rfl (sw_true rfl rfl rfl (by decide +kernel)) (own := [("lot", 18)]) (pi_listK (K := K) (pv 7)) (blkOk_by (by kernel_rfl)) (fun _ _ _ _ _ => (pg_name (i := 18) sc_law.nd rfl (.inr rfl))) (fun _ _ _ _ _ => (pts_one (pt_cmpR (op_eqX (K := K) hu6) (pe_lc (own := [("one", 19)]) rfl sc_law.nd (pi_listK (K := K) (pv 7)) (blkOk_by (by kernel_rfl)) (fun _ _ _ _ _ => (pg_name (i := 19) sc_law.nd rfl (.inl rfl))) (fun _ _ _ _ _ => (pts_one (PW.pt (pw_and (pt_cmpR (op_eqX (K := K) hu6) (pe_op (op_and) (pv 19) (pv 18)) (pv 19) (nomark _)) (pw_and1 (pt_cmpR (op_neX (K := K) hu6) (pv 19) (pv 18) (nomark _)))))))
      (fun _ _ _ _ _ => (pv 19))) (pe_lst pa_nil) (nomark _))))
      (fun _ _ _ _ _ => (pv 18)))
  (C8.pss_cut (ps_setLc (i := 10) rfl sc_law.nd rfl rfl (sw_true rfl rfl rfl (by decide +kernel)) (own := [("lot", 18)]) (pi_listK (K := K) (pv 8)) (blkOk_by (by kernel_rfl)) (fun _ _ _ _ _ => (pg_name (i := 18) sc_law.nd rfl (.inr rfl))) (fun _ _ _ _ _ => (pts_one (pt_cmpR (op_eqX (K := K) hu6) (pe_lc (own := [("one", 19)]) rfl sc_law.nd (pi_listK (K := K) (pv 8)) (blkOk_by (by kernel_rfl)) (fun _ _ _ _ _ => (pg_name (i := 19) sc_law.nd rfl (.inl rfl))) (fun _ _ _ _ _ => (pts_one (PW.pt (pw_and (pt_cmpR (op_eqX (K := K) hu6) (pe_op (op_and) (pv 19) (pv 18)) (pv 18) (nomark _)) (pw_and1 (pt_cmpR (op_neX (K := K) hu6) (pv 19) (pv 18) (nomark _)))))))
      (fun _ _ _ _ _ => (pv 19))) (pe_lst pa_nil) (nomark _))))
      (fun _ _ _ _ _ => (pv 18)))
  (C8.pss_cut (ps_if (pt_cmpR (op_gt) (pv 3) pe_int (nomark _)) (pss_one (ps_asg (C8.pe_c c_law_bent_lots hr (by decide) (by rfl) (pa_cons (pv 1) (pa_cons (pv 5) (pa_cons (pv 9) (pa_cons (pv 10) pa_nil))))) (pg_lstK (K := K) (n := 2) rfl (pgs_cons (pg_name (i := 9) sc_law.nd rfl (.inl rfl)) (pgs_cons (pg_name (i := 10) sc_law.nd rfl (.inl rfl)) pgs_nil))))) pss_nil)
  (C8.pss_cut (ps_set (i := 11) sc_law.nd rfl (.inl rfl) (C8.pe_c c_law_due hr (by decide) (by rfl) (pa_cons (pv 5) (pa_cons (pv 9) (pa_cons (pv 10) pa_nil)))))
  (C8.pss_cut (ps_setLc (i := 12) rfl sc_law.nd rfl rfl (sw_true rfl rfl rfl (by decide +kernel)) (own := [("one", 19)]) (pi_listK (K := K) (C8.pe_c c_law_shuffled hr (by decide) (by rfl) (pa_cons (pv 1) (pa_cons (pv 9) pa_nil)))) (blkOk_by (by kernel_rfl)) (fun _ _ _ _ _ => (pg_name (i := 19) sc_law.nd rfl (.inl rfl))) (fun _ _ _ _ _ => pts_nil)
      (fun _ _ _ _ _ => (C8.pe_c c_law_lot hr (by decide) (by rfl) (pa_cons (pv 4) (pa_cons (pv 19) pa_nil)))))
  (C8.pss_cut (ps_setLc (i := 13) rfl sc_law.nd rfl rfl (sw_true rfl rfl rfl (by decide +kernel)) (own := [("one", 19)]) (pi_listK (K := K) (C8.pe_c c_law_shuffled hr (by decide) (by rfl) (pa_cons (pv 1) (pa_cons (pv 10) pa_nil)))) (blkOk_by (by kernel_rfl)) (fun _ _ _ _ _ => (pg_name (i := 19) sc_law.nd rfl (.inl rfl))) (fun _ _ _ _ _ => pts_nil)
      (fun _ _ _ _ _ => (C8.pe_c c_law_lot hr (by decide) (by rfl) (pa_cons (pv 4) (pa_cons (pv 19) pa_nil)))))
  (C8.pss_cut (ps_set (i := 14) sc_law.nd rfl (.inl rfl) (C8.pe_c c_law_shuffled hr (by decide) (by rfl) (pa_cons (pv 1) (pa_cons (pv 4) pa_nil))))
  (C8.pss_cut (ps_if (pt_cmpR (op_eqX (K := K) hu6) (C8.pe_c c_law_draw hr (by decide) (by rfl) (pa_cons (pv 1) (pa_cons pe_int pa_nil))) pe_int (nomark _)) (pss_one (ps_set (i := 14) sc_law.nd rfl (.inl rfl) (pe_tupleOf (by rfl) T.b_tuple (pv 14)))) pss_nil)
  (C8.pss_cut (ps_set (i := 15) sc_law.nd rfl (.inl rfl) (pe_callB (call_reprG hgd hu6) (by rfl) T.b_repr bt_repr (pa_cons (pe_tup (pa_cons (pv 14) (pa_cons (pv 12) (pa_cons (pv 13) pa_nil)))) pa_nil)))
  (C8.pss_cut (ps_set (i := 16) sc_law.nd rfl (.inl rfl) (C8.pe_c ccovers hr (by decide) (by rfl) (pa_cons (pv 14) (pa_cons (pv 12) (pa_cons (pv 13) pa_nil)))))
  (pss_one (ps_if (PW.pt (pw_or (pt_not (pt_truK (K := K) (pe_callB (call_isAny) (by rfl) T.b_isinstance bt_isinstance (pa_cons (pv 16) (pa_cons (pe_bltn (v := .ty "bool") (by rfl) hBool (by decide +kernel) rfl) pa_nil))) (fun _ => rfl))) (pw_or (pt_cmpR (op_neX (K := K) hu6) (pv 16) (pv 11) (nomark _)) (pw_or1 (pt_cmpR (op_neX (K := K) hu6) (pe_callB (call_reprG hgd hu6) (by rfl) T.b_repr bt_repr (pa_cons (pe_tup (pa_cons (pv 14) (pa_cons (pv 12) (pa_cons (pv 13) pa_nil)))) pa_nil)) (pv 15) (nomark _)))))) (pss_one (ps_ret pe_bl)) pss_nil)))))))))))))))))))
  (pss_one (ps_ret pe_bl)))), ?_⟩
    -- GENMARK
    have lmG : ∀ gs : List Nat, (gs.map natV).length = gs.length := fun gs => List.length_map _
    refine ⟨.ref a, rfl, a, L, rfl, hs, hl, fun p qc G0 np s0 pen0 => ?_⟩
    refine ⟨5, rfl, by decide, by decide, ?_⟩
    refine for_range (fun i σ G => ∃ d2 d3 d4 d5 d6 d7 d8 d9 d10 d11 d12 d13 d14 d15 d16 d17 d18 d19 : Option V, σ = [some (.ref a), some (.ref p), d2, d3, d4, d5, d6, d7, d8, d9, d10, d11, d12, d13, d14, d15, d16, d17, d18, d19] ∧ Pen K G p qc (400 * i)) ⟨_, _, _, _, _, _, _, _, _, _, _, _, _, _, _, _, _, _, rfl, pen0⟩ (fun i σ G hi pv => ?_) (fun σ G pv => ?_)
    rotate_left
    · obtain ⟨d2, d3, d4, d5, d6, d7, d8, d9, d10, d11, d12, d13, d14, d15, d16, d17, d18, d19, rfl, _⟩ := pv
      exact q _
    obtain ⟨d2, d3, d4, d5, d6, d7, d8, d9, d10, d11, d12, d13, d14, d15, d16, d17, d18, d19, rfl, pen⟩ := pv
    have hi5 : i < 5 := hi
    -- a way, names
    refine ⟨fun σ Z => ∃ w : Nat, σ = [some (.ref a), some (.ref p), some (.int (0 + i)), some (natV w), d4, d5, d6, d7, d8, d9, d10, d11, d12, d13, d14, d15, d16, d17, d18, d19] ∧ Pen K Z p qc (400 * i + 1), ?_, ?_⟩
    · refine ⟨.ref p, rfl, p, qc, 4, 400 * i, rfl, pen, by omega, by decide, by decide, fun d Z d0 d1 kZ penZ => ?_⟩
      obtain ⟨w, ew, _⟩ := nat_of d0 d1
      rw [ew]
      exact ⟨w, rfl, penZ⟩
    rintro σ1 G1 ⟨w, rfl, pen1⟩
    refine ⟨fun σ Z => ∃ (nl : Addr) (ns : List Str) (m : Nat), σ = [some (.ref a), some (.ref p), some (.int (0 + i)), some (natV w), some (.ref nl), d5, d6, d7, d8, d9, d10, d11, d12, d13, d14, d15, d16, d17, d18, d19] ∧ Pen K Z p qc (400 * i + 22) ∧ Z nl = some (.lst (ns.map V.str)) ∧ sortedS ns = true ∧ ns.Nodup ∧ (∀ x ∈ ns, NameOk x) ∧ ns.length = m ∧ m ≤ 6, ?_, ?_⟩
    · refine ⟨.ref p, rfl, p, qc, 400 * i + 1, 6, rfl, pen1, by omega, by decide, by decide, fun l xs Z hx nd ok nl el lp kZ penZ => ?_⟩
      refine ⟨.ref p, rfl, p, qc, 7, 400 * i + 1 + 20, rfl, penZ, by omega, by decide, by decide, fun d Z2 d0 d1 k2 pen2 => ?_⟩
      have el2 := k2 _ _ lp el
      refine ⟨_, rfl, .inl ⟨l, _, rfl, .inl (.inl el2), fun l3 n3 => ?_⟩⟩
      rw [cutV_to d0, ← List.map_take]
      have s3 := same_new n3 (o := .lst ((xs.take d.toNat).map V.str))
      have e3 : (upd Z2 l3 (.lst ((xs.take d.toNat).map V.str))) l3 = some (.lst ((xs.take d.toNat).map V.str)) := upd_same
      have pen3 := pen2.same s3
      generalize upd Z2 l3 (.lst ((xs.take d.toNat).map V.str)) = Z3 at e3 pen3
      have lt : (xs.take d.toNat).length ≤ 6 := by rw [List.length_take]; omega
      refine ⟨l3, xs.take d.toNat, rfl, .inl (.inl (.inl e3)), by omega, fun ys p2 pm so n2 => ?_⟩
      refine ⟨p2, ys, ys.length, rfl, (pen3.same (same_new n2)).le (by omega), upd_same, so, pm.symm.nodup ((List.take_sublist _ _).nodup nd), fun x hx2 => ok x (List.mem_of_mem_take (pm.subset hx2)), rfl, by rw [pm.length_eq]; exact lt⟩
    rintro σ2 G2 ⟨nl, ns, m, rfl, pen2, en, so, nd, ok, lm, h6⟩
    have p6 := pow_le64 h6
    have pp : 0 < 2 ^ m := Nat.pow_pos (by decide)
    refine ⟨fun σ Z => σ = [some (.ref a), some (.ref p), some (.int (0 + i)), some (natV w), some (.ref nl), some (natV (2 ^ m)), d6, d7, d8, d9, d10, d11, d12, d13, d14, d15, d16, d17, d18, d19] ∧ Same G2 Z, ?_, ?_⟩
    · refine ⟨by show 7 ≤ sizeLine; decide, fun l n2 => ?_⟩
      have s3 := same_new n2 (o := .lst [V.int 1, V.int 2, V.int 4, V.int 8, V.int 16, V.int 32, V.int 64])
      refine ⟨.ref nl, rfl, .inl ⟨_, .inl (.inl (.inl (s3 _ _ en))), .inl ⟨l, _, _, natV (2 ^ m), rfl, rfl, .inl (.inl upd_same), ?_, rfl, s3⟩⟩⟩
      rw [List.length_map, lm]
      exact pow_at h6
    rintro σ3 G3 ⟨rfl, s3⟩
    have pen3 := pen2.same s3
    have en := s3 _ _ en
    clear s3 pen2 pen1
    have nlp := pen3.ne en
    -- seeds
    refine ⟨fun σ Z => ∃ (sl : Addr) (ss : List Nat), σ = [some (.ref a), some (.ref p), some (.int (0 + i)), some (natV w), some (.ref nl), some (natV (2 ^ m)), some (.ref sl), d7, d8, d9, d10, d11, d12, d13, d14, d15, d16, d17, d18, d19] ∧ Pen K Z p qc (400 * i + 30) ∧ Z nl = some (.lst (ns.map V.str)) ∧ Z sl = some (.lst (ss.map natV)) ∧ ss.length ≤ 4, ?_, ?_⟩
    · refine ⟨.ref p, rfl, p, qc, 5, 400 * i + 22, rfl, pen3, by omega, by decide, by decide, fun dd Z1 d0 d1 k1 pen1 => ⟨dd, rfl, by omega, by omega, fun D nD => ?_⟩⟩
      have d4 : dd.toNat ≤ 4 := by omega
      generalize dd.toNat = nq at d4
      have en1 := k1 _ _ nlp en
      refine lc_it (walk_range (lo := 0) (n := nq)) (fun j Y => Kp p Z1 Y ∧ Pen K Y p qc (400 * i + 23 + j) ∧ ∃ gs : List Nat, Y D = some (.lst (gs.map natV)) ∧ gs.length = j) ⟨fun u o _ e => same_new nD _ _ e, pen1.same (same_new nD), [], upd_same, rfl⟩ (fun k Y _ pv => trivial) (fun j yv Y Y' hj pv hy => ?_) (fun Y pv => ?_)
      · obtain ⟨kY, penY, gs, eY, lgs⟩ := pv
        obtain ⟨rfl, rfl⟩ := hy
        refine ⟨rfl, yes_if ⟨.ref p, by kernel_rfl, natV (2 ^ m), by kernel_rfl, p, qc, ((2 ^ m : Nat) : Int), 400 * i + 23 + j, rfl, penY, by omega, by omega, by omega, fun d Y2 e0 e1 k2 pen2 => ?_⟩⟩
        obtain ⟨nw, ew, hnw⟩ := nat_of e0 e1
        rw [ew]
        have Dp := pen1.off nD
        have eY2 := k2 _ _ Dp eY
        refine ⟨_, eY2, by rw [lmG, sizeLine_eq]; omega, fun u o np e => ?_, pen2.wr pen1 nD, gs ++ [nw], by rw [upd_same, List.map_append]; rfl, by rw [List.length_append, lgs]; rfl⟩
        rw [upd_ne (fun z => by rw [z, nD] at e; cases e)]
        exact k2 u o np (kY u o np e)
      · obtain ⟨kY, penY, gs, eY, lgs⟩ := pv
        exact ⟨D, gs, rfl, penY.le (by omega), kY _ _ nlp en1, eY, by omega⟩
    rintro σ4 G4 ⟨sl, ss, rfl, pen4, en, es, lss⟩
    clear pen3 nlp
    -- lots that are above one of them
    refine ⟨fun σ Z => ∃ (al : Addr) (as : List Nat), σ = [some (.ref a), some (.ref p), some (.int (0 + i)), some (natV w), some (.ref nl), some (natV (2 ^ m)), some (.ref sl), some (.ref al), d8, d9, d10, d11, d12, d13, d14, d15, d16, d17, d18, d19] ∧ Same G4 Z ∧ Z al = some (.lst (as.map natV)) ∧ (∀ g ∈ as, g < 2 ^ m) ∧ as.length ≤ 2 ^ m, ?_, ?_⟩
    · refine ⟨natV (2 ^ m), rfl, ((2 ^ m : Nat) : Int), rfl, Int.le_trans (by decide) (Int.natCast_nonneg (2 ^ m)), by omega, fun D nD => ?_⟩
      rw [Int.toNat_natCast]
      refine lc_it (walk_range (lo := 0) (n := 2 ^ m)) (fun j Y => Same G4 Y ∧ ∃ gs : List Nat, Y D = some (.lst (gs.map natV)) ∧ gs.length ≤ j ∧ ∀ g ∈ gs, g < 2 ^ m) ⟨same_new nD, [], upd_same, Nat.le_refl _, fun _ z => nomatch z⟩ (fun k Y _ pv => trivial) (fun j yv Y Y' hj pv hy => ?_) (fun Y pv => ?_)
      · obtain ⟨sY, gs, eY, lgs, bgs⟩ := pv
        obtain ⟨rfl, rfl⟩ := hy
        refine ⟨rfl, .ref sl, by kernel_rfl, sl, rfl, ⟨_, .inl (.inl (sY _ _ es))⟩, fun D2 nD2 => ?_⟩
        refine lc_it (walk_list (a := sl) (xs := ss.map natV)) (fun j2 Y2 => Same Y' Y2 ∧ ∃ rs : List Nat, Y2 D2 = some (.lst (rs.map natV)) ∧ rs.length ≤ j2) ⟨same_new nD2, [], upd_same, Nat.le_refl _⟩ (fun k Y2 _ pv => .inl (.inl (pv.1 _ _ (sY _ _ es)))) (fun j2 y2 Y2 Y2' hj2 pv hy => ?_) (fun Y2 pv => ?_)
        · obtain ⟨sY2, rs, eY2, lrs⟩ := pv
          obtain ⟨rfl, hv⟩ := hy
          rw [List.getElem?_map] at hv
          obtain ⟨g, hg1, rfl⟩ := Option.map_eq_some_iff.mp hv
          rw [lmG] at hj2
          refine ⟨rfl, natV g, by kernel_rfl, .int (0 + j), by kernel_rfl, _, _, rfl, rfl, natV g, by kernel_rfl, .inl ⟨rfl, _, rfl, iteAny ?_ ?_⟩⟩
          · exact ⟨natV g, by kernel_rfl, _, eY2, by rw [lmG, sizeLine_eq]; omega, same_mut sY2 nD2, rs ++ [g], by rw [upd_same, List.map_append]; rfl, by rw [List.length_append]; show rs.length + 1 ≤ _; omega⟩
          · exact ⟨sY2, rs, eY2, by omega⟩
        · obtain ⟨sY2, rs, eY2, lrs⟩ := pv
          refine ⟨by show 0 ≤ sizeLine; decide, fun e0 n0 => ?_⟩
          have s5 := sY2.trans (same_new n0 (o := .lst []))
          have e5 := same_new n0 (o := .lst []) _ _ eY2
          have eD5 := s5 _ _ eY
          refine ne_nats e5 upd_same ⟨_, rfl, iteAny ?_ ?_⟩
          · refine ⟨.int (0 + j), by kernel_rfl, _, eD5, by rw [lmG, sizeLine_eq]; omega, same_mut (sY.trans s5) nD, gs ++ [j], by rw [upd_same, List.map_append, Int.zero_add]; rfl, by rw [List.length_append]; show gs.length + 1 ≤ _; omega, fun g hg => ?_⟩
            rcases List.mem_append.mp hg with hg | hg
            · exact bgs g hg
            · rw [List.mem_singleton.mp hg]; exact hj
          · exact ⟨sY.trans s5, gs, eD5, by omega, bgs⟩
      · obtain ⟨sY, gs, eY, lgs, bgs⟩ := pv
        exact ⟨D, gs, rfl, sY, eY, bgs, lgs⟩
    rintro σ5 G5 ⟨al, as, rfl, s5, ea, bas, las⟩
    have pen5 := pen4.same s5
    have en := s5 _ _ en
    clear s5 pen4 es
    -- the others
    refine ⟨fun σ Z => ∃ (bl : Addr) (bs : List Nat), σ = [some (.ref a), some (.ref p), some (.int (0 + i)), some (natV w), some (.ref nl), some (natV (2 ^ m)), some (.ref sl), some (.ref al), some (.ref bl), d9, d10, d11, d12, d13, d14, d15, d16, d17, d18, d19] ∧ Same G5 Z ∧ Z bl = some (.lst (bs.map natV)) ∧ (∀ g ∈ bs, g < 2 ^ m) ∧ bs.length ≤ 2 ^ m, ?_, ?_⟩
    · refine ⟨natV (2 ^ m), rfl, ((2 ^ m : Nat) : Int), rfl, Int.le_trans (by decide) (Int.natCast_nonneg (2 ^ m)), by omega, fun D nD => ?_⟩
      rw [Int.toNat_natCast]
      refine lc_it (walk_range (lo := 0) (n := 2 ^ m)) (fun j Y => Same G5 Y ∧ ∃ gs : List Nat, Y D = some (.lst (gs.map natV)) ∧ gs.length ≤ j ∧ ∀ g ∈ gs, g < 2 ^ m) ⟨same_new nD, [], upd_same, Nat.le_refl _, fun _ z => nomatch z⟩ (fun k Y _ pv => trivial) (fun j yv Y Y' hj pv hy => ?_) (fun Y pv => ?_)
      · obtain ⟨sY, gs, eY, lgs, bgs⟩ := pv
        obtain ⟨rfl, rfl⟩ := hy
        refine ⟨rfl, .int (0 + j), by kernel_rfl, .ref al, by kernel_rfl, .int (0 + j), _, .int _, .lst (.inl (.inl (sY _ _ ea))) (dp_nats as), rfl, shaped_natsL as, ?_⟩
        refine ⟨_, rfl, iteAny ?_ ?_⟩
        · refine ⟨.int (0 + j), by kernel_rfl, _, eY, by rw [lmG, sizeLine_eq]; omega, same_mut sY nD, gs ++ [j], by rw [upd_same, List.map_append, Int.zero_add]; rfl, by rw [List.length_append]; show gs.length + 1 ≤ _; omega, fun g hg => ?_⟩
          rcases List.mem_append.mp hg with hg | hg
          · exact bgs g hg
          · rw [List.mem_singleton.mp hg]; exact hj
        · exact ⟨sY, gs, eY, by omega, bgs⟩
      · obtain ⟨sY, gs, eY, lgs, bgs⟩ := pv
        exact ⟨D, gs, rfl, sY, eY, bgs, lgs⟩
    rintro σ6 G6 ⟨bl, bs, rfl, s6, eb, bbs, lbs⟩
    have pen6 := pen5.same s6
    have en := s6 _ _ en
    have ea := s6 _ _ ea
    clear s6 pen5
    refine ⟨fun σ Z => ∃ (gl : Addr) (gs : List Nat), σ = [some (.ref a), some (.ref p), some (.int (0 + i)), some (natV w), some (.ref nl), some (natV (2 ^ m)), some (.ref sl), some (.ref al), some (.ref bl), some (.ref gl), d10, d11, d12, d13, d14, d15, d16, d17, d18, d19] ∧ Same G6 Z ∧ Z gl = some (.lst (gs.map natV)) ∧ (∀ g ∈ gs, g < 2 ^ m) ∧ gs.length ≤ 2 ^ m, ?_, ?_⟩
    · refine ⟨.ref al, rfl, al, rfl, ⟨_, .inl (.inl ea)⟩, fun D nD => ?_⟩
      refine lc_it (walk_list (a := al) (xs := as.map natV)) (fun j Y => Same G6 Y ∧ ∃ gs : List Nat, Y D = some (.lst (gs.map natV)) ∧ gs.length ≤ j ∧ ∀ g ∈ gs, g < 2 ^ m) ⟨same_new nD, [], upd_same, Nat.le_refl _, fun _ z => nomatch z⟩ (fun k Y _ pv => .inl (.inl (pv.1 _ _ ea))) (fun j yv Y Y' hj pv hy => ?_) (fun Y pv => ?_)
      · obtain ⟨sY, gs, eY, lgs, bgs⟩ := pv
        obtain ⟨rfl, hv0⟩ := hy
        rw [List.getElem?_map] at hv0
        obtain ⟨lot, hg0, rfl⟩ := Option.map_eq_some_iff.mp hv0
        have hlot := bas lot (List.mem_of_getElem? hg0)
        rw [lmG] at hj
        refine ⟨rfl, .ref al, by kernel_rfl, al, rfl, ⟨_, .inl (.inl (sY _ _ ea))⟩, fun D2 nD2 => ?_⟩
        refine lc_it (walk_list (a := al) (xs := as.map natV)) (fun j2 Y2 => Same Y' Y2 ∧ ∃ rs : List Nat, Y2 D2 = some (.lst (rs.map natV)) ∧ rs.length ≤ j2) ⟨same_new nD2, [], upd_same, Nat.le_refl _⟩ (fun k Y2 _ pv => .inl (.inl (pv.1 _ _ (sY _ _ ea)))) (fun j2 y2 Y2 Y2' hj2 pv hy => ?_) (fun Y2 pv => ?_)
        · obtain ⟨sY2, rs, eY2, lrs⟩ := pv
          obtain ⟨rfl, hv⟩ := hy
          rw [List.getElem?_map] at hv
          obtain ⟨g, hg1, rfl⟩ := Option.map_eq_some_iff.mp hv
          rw [lmG] at hj2
          refine ⟨rfl, natV g, by kernel_rfl, natV lot, by kernel_rfl, _, _, rfl, rfl, natV g, by kernel_rfl, .inl ⟨rfl, _, rfl, iteAny ⟨natV g, by kernel_rfl, natV lot, by kernel_rfl, .inl ⟨rfl, _, rfl, iteAny ?_ ?_⟩⟩ ?_⟩⟩
          · exact ⟨natV g, by kernel_rfl, _, eY2, by rw [lmG, sizeLine_eq]; omega, same_mut sY2 nD2, rs ++ [g], by rw [upd_same, List.map_append]; rfl, by rw [List.length_append]; show rs.length + 1 ≤ _; omega⟩
          · exact ⟨sY2, rs, eY2, by omega⟩
          · exact ⟨sY2, rs, eY2, by omega⟩
        · obtain ⟨sY2, rs, eY2, lrs⟩ := pv
          refine ⟨by show 0 ≤ sizeLine; decide, fun e0 n0 => ?_⟩
          have s5 := sY2.trans (same_new n0 (o := .lst []))
          have e5 := same_new n0 (o := .lst []) _ _ eY2
          have eD5 := s5 _ _ eY
          refine eq_nats e5 upd_same ⟨_, rfl, iteAny ?_ ?_⟩
          · refine ⟨natV lot, by kernel_rfl, _, eD5, by rw [lmG, sizeLine_eq]; omega, same_mut (sY.trans s5) nD, gs ++ [lot], by rw [upd_same, List.map_append]; rfl, by rw [List.length_append]; show gs.length + 1 ≤ _; omega, fun g hg => ?_⟩
            rcases List.mem_append.mp hg with hg | hg
            · exact bgs g hg
            · rw [List.mem_singleton.mp hg]; exact hlot
          · exact ⟨sY.trans s5, gs, eD5, by omega, bgs⟩
      · obtain ⟨sY, gs, eY, lgs, bgs⟩ := pv
        rw [lmG] at lgs
        exact ⟨D, gs, rfl, sY, eY, bgs, by omega⟩
    rintro σ7 G7 ⟨gl, gs, rfl, s7, eg, bgs, lgs⟩
    have pen7 := pen6.same s7
    have en := s7 _ _ en
    have eb := s7 _ _ eb
    clear s7 pen6 ea
    refine ⟨fun σ Z => ∃ (hl : Addr) (gs : List Nat), σ = [some (.ref a), some (.ref p), some (.int (0 + i)), some (natV w), some (.ref nl), some (natV (2 ^ m)), some (.ref sl), some (.ref al), some (.ref bl), some (.ref gl), some (.ref hl), d11, d12, d13, d14, d15, d16, d17, d18, d19] ∧ Same G7 Z ∧ Z hl = some (.lst (gs.map natV)) ∧ (∀ g ∈ gs, g < 2 ^ m) ∧ gs.length ≤ 2 ^ m, ?_, ?_⟩
    · refine ⟨.ref bl, rfl, bl, rfl, ⟨_, .inl (.inl eb)⟩, fun D nD => ?_⟩
      refine lc_it (walk_list (a := bl) (xs := bs.map natV)) (fun j Y => Same G7 Y ∧ ∃ gs : List Nat, Y D = some (.lst (gs.map natV)) ∧ gs.length ≤ j ∧ ∀ g ∈ gs, g < 2 ^ m) ⟨same_new nD, [], upd_same, Nat.le_refl _, fun _ z => nomatch z⟩ (fun k Y _ pv => .inl (.inl (pv.1 _ _ eb))) (fun j yv Y Y' hj pv hy => ?_) (fun Y pv => ?_)
      · obtain ⟨sY, gs, eY, lgs, bgs⟩ := pv
        obtain ⟨rfl, hv0⟩ := hy
        rw [List.getElem?_map] at hv0
        obtain ⟨lot, hg0, rfl⟩ := Option.map_eq_some_iff.mp hv0
        have hlot := bbs lot (List.mem_of_getElem? hg0)
        rw [lmG] at hj
        refine ⟨rfl, .ref bl, by kernel_rfl, bl, rfl, ⟨_, .inl (.inl (sY _ _ eb))⟩, fun D2 nD2 => ?_⟩
        refine lc_it (walk_list (a := bl) (xs := bs.map natV)) (fun j2 Y2 => Same Y' Y2 ∧ ∃ rs : List Nat, Y2 D2 = some (.lst (rs.map natV)) ∧ rs.length ≤ j2) ⟨same_new nD2, [], upd_same, Nat.le_refl _⟩ (fun k Y2 _ pv => .inl (.inl (pv.1 _ _ (sY _ _ eb)))) (fun j2 y2 Y2 Y2' hj2 pv hy => ?_) (fun Y2 pv => ?_)
        · obtain ⟨sY2, rs, eY2, lrs⟩ := pv
          obtain ⟨rfl, hv⟩ := hy
          rw [List.getElem?_map] at hv
          obtain ⟨g, hg1, rfl⟩ := Option.map_eq_some_iff.mp hv
          rw [lmG] at hj2
          refine ⟨rfl, natV g, by kernel_rfl, natV lot, by kernel_rfl, _, _, rfl, rfl, natV lot, by kernel_rfl, .inl ⟨rfl, _, rfl, iteAny ⟨natV g, by kernel_rfl, natV lot, by kernel_rfl, .inl ⟨rfl, _, rfl, iteAny ?_ ?_⟩⟩ ?_⟩⟩
          · exact ⟨natV g, by kernel_rfl, _, eY2, by rw [lmG, sizeLine_eq]; omega, same_mut sY2 nD2, rs ++ [g], by rw [upd_same, List.map_append]; rfl, by rw [List.length_append]; show rs.length + 1 ≤ _; omega⟩
          · exact ⟨sY2, rs, eY2, by omega⟩
          · exact ⟨sY2, rs, eY2, by omega⟩
        · obtain ⟨sY2, rs, eY2, lrs⟩ := pv
          refine ⟨by show 0 ≤ sizeLine; decide, fun e0 n0 => ?_⟩
          have s5 := sY2.trans (same_new n0 (o := .lst []))
          have e5 := same_new n0 (o := .lst []) _ _ eY2
          have eD5 := s5 _ _ eY
          refine eq_nats e5 upd_same ⟨_, rfl, iteAny ?_ ?_⟩
          · refine ⟨natV lot, by kernel_rfl, _, eD5, by rw [lmG, sizeLine_eq]; omega, same_mut (sY.trans s5) nD, gs ++ [lot], by rw [upd_same, List.map_append]; rfl, by rw [List.length_append]; show gs.length + 1 ≤ _; omega, fun g hg => ?_⟩
            rcases List.mem_append.mp hg with hg | hg
            · exact bgs g hg
            · rw [List.mem_singleton.mp hg]; exact hlot
          · exact ⟨sY.trans s5, gs, eD5, by omega, bgs⟩
      · obtain ⟨sY, gs, eY, lgs, bgs⟩ := pv
        rw [lmG] at lgs
        exact ⟨D, gs, rfl, sY, eY, bgs, by omega⟩
    rintro σ8 G8 ⟨hl, hs2, rfl, s8, eh, bhs, lhs⟩
    have pen8 := pen7.same s8
    have en := s8 _ _ en
    have eg := s8 _ _ eg
    clear s8 pen7 eb bbs lbs bas las
    have nlp := pen8.ne en
    -- bent
    refine ⟨fun σ Z => ∃ (gl hl : Addr) (gs bs : List Nat), σ = [some (.ref a), some (.ref p), some (.int (0 + i)), some (natV w), some (.ref nl), some (natV (2 ^ m)), some (.ref sl), some (.ref al), some (.ref bl), some (.ref gl), some (.ref hl), d11, d12, d13, d14, d15, d16, d17, d18, d19] ∧ Pen K Z p qc (400 * i + 100) ∧ Z nl = some (.lst (ns.map V.str)) ∧ Z gl = some (.lst (gs.map natV)) ∧ Z hl = some (.lst (bs.map natV)) ∧ (∀ g ∈ gs, g < 2 ^ m) ∧ (∀ g ∈ bs, g < 2 ^ m) ∧ gs.length ≤ 100 ∧ bs.length ≤ 100, ?_, ?_⟩
    · refine ⟨natV w, rfl, _, _, rfl, rfl, _, rfl, iteAny ?_ ?_⟩
      · refine ⟨.ref p, rfl, natV (2 ^ m), rfl, .ref gl, rfl, .ref hl, rfl, ?_⟩
        dsimp only [tNil]
        refine ⟨p, gl, hl, qc, 400 * i + 30, m, gs, hs2, rfl, pen8, by omega, h6, eg, bgs, by omega, eh, bhs, by omega, fun r a1 b1 gs' bs' Z kZ penZ er e1 e2 c1 c2 l1 l2 ap bp => ?_⟩
        refine ⟨r, _, rfl, .inl (.inl er), rfl, _, _, rfl, _, _, rfl, rfl, ?_⟩
        exact ⟨a1, b1, gs', bs', rfl, penZ.le (by omega), kZ _ _ nlp en, e1, e2, c1, c2, l1, l2⟩
      · exact ⟨gl, hl, gs, hs2, rfl, pen8.le (by omega), en, eg, eh, bgs, bhs, by omega, by omega⟩
    clear pen8 en eg eh bgs bhs lgs lhs nlp
    rintro σ9 G9 ⟨gl, hl, gs, bs, rfl, pen9, en, eg, eh, bgs, bbs, lgs, lbs⟩
    have pw : ∀ {Z : Hp} {ws : List V} {ds : List (List Str)} {Z' : Hp} {n : Nat}, Pen K Z p qc n → Kp p Z Z' → TupAll K Z ws ds → TupAll K Z' ws ds := fun {Z ws ds Z' n} pen k h => by
      obtain ⟨t2, r2, eP2, _⟩ := id pen
      exact h.move fun b xs z => ExtM.sqT2 eP2 (ExtM.kp k) b xs z
    -- what is due
    refine ⟨fun σ Z => σ = [some (.ref a), some (.ref p), some (.int (0 + i)), some (natV w), some (.ref nl), some (natV (2 ^ m)), some (.ref sl), some (.ref al), some (.ref bl), some (.ref gl), some (.ref hl), some (.bl (coverB m gs bs)), d12, d13, d14, d15, d16, d17, d18, d19] ∧ Same G9 Z, ?_, ?_⟩
    · refine ⟨natV (2 ^ m), rfl, .ref gl, rfl, .ref hl, rfl, ?_⟩
      dsimp only [tNil]
      exact ⟨gl, hl, m, gs, bs, rfl, h6, eg, bgs, lgs, eh, bbs, lbs, fun Z s => ⟨rfl, s⟩⟩
    rintro σ10 G10 ⟨rfl, s10⟩
    have pen10 := pen9.same s10
    have en := s10 _ _ en
    have eg := s10 _ _ eg
    have eh := s10 _ _ eh
    clear s10 pen9
    have nlp := pen10.ne en
    have hlp := pen10.ne eh
    -- the lots
    refine ⟨fun σ Z => ∃ (ul : Addr) (uws : List V) (us : List Nat), σ = [some (.ref a), some (.ref p), some (.int (0 + i)), some (natV w), some (.ref nl), some (natV (2 ^ m)), some (.ref sl), some (.ref al), some (.ref bl), some (.ref gl), some (.ref hl), some (.bl (coverB m gs bs)), some (.ref ul), d13, d14, d15, d16, d17, d18, d19] ∧ Pen K Z p qc (400 * i + 200) ∧ Z nl = some (.lst (ns.map V.str)) ∧ Z hl = some (.lst (bs.map natV)) ∧ Z ul = some (.lst uws) ∧ TupAll K Z uws (us.map (lotS ns)) ∧ us.Perm gs, ?_, ?_⟩
    · refine ⟨.ref p, rfl, .ref gl, rfl, p, gl, qc, 400 * i + 100, _, rfl, pen10, by rw [lmG]; omega, .inl (.inl (.inl eg)), src_nats, fun l zs Z pm nlq el lp kZ penZ => ?_⟩
      obtain ⟨us, rfl, pu⟩ := perm_nats pm
      rw [lmG] at penZ
      have enZ := kZ _ _ nlp en
      have ehZ := kZ _ _ hlp eh
      refine ⟨l, rfl, ⟨_, .inl (.inl el)⟩, fun D nD => ?_⟩
      refine lc_it (walk_list (a := l) (xs := us.map natV)) (fun j Y => Same Z Y ∧ ∃ ws, Y D = some (.lst ws) ∧ TupAll K Y ws ((us.take j).map (lotS ns))) ⟨same_new nD, [], upd_same, .nil⟩ (fun k Y _ pv => .inl (.inl (pv.1 _ _ el))) (fun j y Y Y' hj pv hy => ?_) (fun Y pv => ?_)
      · obtain ⟨sY, ws, eY, tY⟩ := pv
        obtain ⟨rfl, hv⟩ := hy
        rw [List.getElem?_map] at hv
        obtain ⟨g, hg1, rfl⟩ := Option.map_eq_some_iff.mp hv
        have hg := bgs g (pu.subset (List.mem_of_getElem? hg1))
        have lus := pu.length_eq
        rw [take_snoc hg1, List.map_append]
        refine ⟨rfl, yes_if ⟨.ref nl, by kernel_rfl, natV g, by kernel_rfl, ?_⟩⟩
        refine ⟨nl, ns, g, m, rfl, sY _ _ enZ, lm, h6, hg, fun u Y2 s2 eu => ?_⟩
        have eY2 := s2 _ _ eY
        have lw : ws.length ≤ 100 := by rw [tY.length, List.length_map, List.length_take]; omega
        refine ⟨_, eY2, by rw [sizeLine_eq]; omega, same_mut (sY.trans s2) nD, ws ++ [.ref u], upd_same, ?_⟩
        exact TupAll.move (fun b xs z => sqT_off eY2 z) ((tY.same s2).append (.cons (d := lotS ns g) eu .nil))
      · obtain ⟨sY, ws, eY, tY⟩ := pv
        rw [lmG, List.take_length] at tY
        exact ⟨D, ws, us, rfl, (penZ.same sY).le (by omega), sY _ _ enZ, sY _ _ ehZ, eY, tY, pu⟩
    rintro σ11 G11 ⟨ul, uws, us, rfl, pen11, en, eh, eu, tu, pu⟩
    clear pen10 eg hlp nlp
    have nlp := pen11.ne en
    have ulp := pen11.ne eu
    refine ⟨fun σ Z => ∃ (fl : Addr) (fws : List V) (fs : List Nat), σ = [some (.ref a), some (.ref p), some (.int (0 + i)), some (natV w), some (.ref nl), some (natV (2 ^ m)), some (.ref sl), some (.ref al), some (.ref bl), some (.ref gl), some (.ref hl), some (.bl (coverB m gs bs)), some (.ref ul), some (.ref fl), d14, d15, d16, d17, d18, d19] ∧ Pen K Z p qc (400 * i + 300) ∧ Z nl = some (.lst (ns.map V.str)) ∧ Z ul = some (.lst uws) ∧ TupAll K Z uws (us.map (lotS ns)) ∧ Z fl = some (.lst fws) ∧ TupAll K Z fws (fs.map (lotS ns)) ∧ fs.Perm bs, ?_, ?_⟩
    · refine ⟨.ref p, rfl, .ref hl, rfl, p, hl, qc, 400 * i + 200, _, rfl, pen11, by rw [lmG]; omega, .inl (.inl (.inl eh)), src_nats, fun l zs Z pm nlq el lp kZ penZ => ?_⟩
      obtain ⟨fs, rfl, pf⟩ := perm_nats pm
      rw [lmG] at penZ
      have enZ := kZ _ _ nlp en
      have euZ := kZ _ _ ulp eu
      have tuZ := pw pen11 kZ tu
      refine ⟨l, rfl, ⟨_, .inl (.inl el)⟩, fun D nD => ?_⟩
      refine lc_it (walk_list (a := l) (xs := fs.map natV)) (fun j Y => Same Z Y ∧ ∃ ws, Y D = some (.lst ws) ∧ TupAll K Y ws ((fs.take j).map (lotS ns))) ⟨same_new nD, [], upd_same, .nil⟩ (fun k Y _ pv => .inl (.inl (pv.1 _ _ el))) (fun j y Y Y' hj pv hy => ?_) (fun Y pv => ?_)
      · obtain ⟨sY, ws, eY, tY⟩ := pv
        obtain ⟨rfl, hv⟩ := hy
        rw [List.getElem?_map] at hv
        obtain ⟨g, hg1, rfl⟩ := Option.map_eq_some_iff.mp hv
        have hg := bbs g (pf.subset (List.mem_of_getElem? hg1))
        have lus := pf.length_eq
        rw [take_snoc hg1, List.map_append]
        refine ⟨rfl, yes_if ⟨.ref nl, by kernel_rfl, natV g, by kernel_rfl, ?_⟩⟩
        refine ⟨nl, ns, g, m, rfl, sY _ _ enZ, lm, h6, hg, fun u Y2 s2 eu => ?_⟩
        have eY2 := s2 _ _ eY
        have lw : ws.length ≤ 100 := by rw [tY.length, List.length_map, List.length_take]; omega
        refine ⟨_, eY2, by rw [sizeLine_eq]; omega, same_mut (sY.trans s2) nD, ws ++ [.ref u], upd_same, ?_⟩
        exact TupAll.move (fun b xs z => sqT_off eY2 z) ((tY.same s2).append (.cons (d := lotS ns g) eu .nil))
      · obtain ⟨sY, ws, eY, tY⟩ := pv
        rw [lmG, List.take_length] at tY
        exact ⟨D, ws, fs, rfl, (penZ.same sY).le (by omega), sY _ _ enZ, sY _ _ euZ, tuZ.same sY, eY, tY, pf⟩
    rintro σ12 G12 ⟨fl, fws, fs, rfl, pen12, en, eu, tu, ef, tf, pf⟩
    clear pen11 eh ulp nlp
    have ulp := pen12.ne eu
    have flp := pen12.ne ef
    -- the names in another order
    refine ⟨fun σ Z => ∃ (tl : Addr) (xs : List Str), σ = [some (.ref a), some (.ref p), some (.int (0 + i)), some (natV w), some (.ref nl), some (natV (2 ^ m)), some (.ref sl), some (.ref al), some (.ref bl), some (.ref gl), some (.ref hl), some (.bl (coverB m gs bs)), some (.ref ul), some (.ref fl), some (.ref tl), d15, d16, d17, d18, d19] ∧ Pen K Z p qc (400 * i + 310) ∧ Z tl = some (.lst (xs.map V.str)) ∧ xs.Perm ns ∧ Z ul = some (.lst uws) ∧ TupAll K Z uws (us.map (lotS ns)) ∧ Z fl = some (.lst fws) ∧ TupAll K Z fws (fs.map (lotS ns)), ?_, ?_⟩
    · refine ⟨.ref p, rfl, .ref nl, rfl, ?_⟩
      dsimp only [tNil]
      refine ⟨p, nl, qc, 400 * i + 300, _, rfl, pen12, by rw [List.length_map]; omega, .inl (.inl (.inl en)), src_strs ok, fun l zs Z pm nlq el lp kZ penZ => ?_⟩
      obtain ⟨xs, rfl, px⟩ := perm_strs pm
      exact ⟨l, xs, rfl, penZ.le (by rw [List.length_map]; omega), el, px, kZ _ _ ulp eu, pw pen12 kZ tu, kZ _ _ flp ef, pw pen12 kZ tf⟩
    clear pen12 en eu tu ef tf ulp flp
    rintro σ13 G13 ⟨tl, xs, rfl, pen13, et, px, eu, tu, ef, tf⟩
    have tlp := pen13.ne et
    have ulp := pen13.ne eu
    have flp := pen13.ne ef
    refine ⟨fun σ Z => ∃ (tl : Addr) (b : Bool), σ = [some (.ref a), some (.ref p), some (.int (0 + i)), some (natV w), some (.ref nl), some (natV (2 ^ m)), some (.ref sl), some (.ref al), some (.ref bl), some (.ref gl), some (.ref hl), some (.bl (coverB m gs bs)), some (.ref ul), some (.ref fl), some (.ref tl), d15, d16, d17, d18, d19] ∧ Pen K Z p qc (400 * i + 320) ∧ SqB K b Z tl (xs.map V.str) ∧ Z ul = some (.lst uws) ∧ TupAll K Z uws (us.map (lotS ns)) ∧ Z fl = some (.lst fws) ∧ TupAll K Z fws (fs.map (lotS ns)), ?_, ?_⟩
    · refine ⟨.ref p, rfl, p, qc, 2, 400 * i + 310, rfl, pen13, by omega, by decide, by decide, fun d Z d0 d1 kZ penZ => .inl ⟨rfl, _, rfl, iteAny ?_ ?_⟩⟩
      · refine ⟨.ref tl, rfl, .inl ⟨tl, _, rfl, .inl (.inl (kZ _ _ tlp et)), fun t nt => ?_⟩⟩
        have s := same_new nt (o := .tup (xs.map V.str))
        exact ⟨t, false, rfl, (penZ.same s).le (by omega), .inl (.inl upd_same), s _ _ (kZ _ _ ulp eu), (pw pen13 kZ tu).same s, s _ _ (kZ _ _ flp ef), (pw pen13 kZ tf).same s⟩
      · exact ⟨tl, true, rfl, penZ.le (by omega), .inl (.inl (kZ _ _ tlp et)), kZ _ _ ulp eu, pw pen13 kZ tu, kZ _ _ flp ef, pw pen13 kZ tf⟩
    clear pen13 et eu tu ef tf ulp flp tlp
    rintro σ14 G14 ⟨tl, b, rfl, pen14, et, eu, tu, ef, tf⟩
    have bus : ∀ g ∈ us, g < 2 ^ m := fun g hg => bgs g (pu.subset hg)
    have bfs : ∀ g ∈ fs, g < 2 ^ m := fun g hg => bbs g (pf.subset hg)
    have lus : us.length ≤ 100 := by rw [pu.length_eq]; exact lgs
    have lfs : fs.length ≤ 100 := by rw [pf.length_eq]; exact lbs
    have okx : ∀ x ∈ xs, NameOk x := fun x hx => ok x (px.subset hx)
    have lxs : xs.length ≤ 6 := by rw [px.length_eq]; omega
    have nD : Neat 40000 3 (.tuple [toldD b xs, .list ((us.map (lotS ns)).map fun d => .tuple (d.map .str)), .list ((fs.map (lotS ns)).map fun d => .tuple (d.map .str))]) := (neat_tup (w := 6400) (dp := 2) (m := 3) (fun q hq => by
      simp only [List.mem_cons, List.not_mem_nil, or_false] at hq
      rcases hq with rfl | rfl | rfl
      · exact (toldD_neat okx lxs).mono (by decide) (by decide)
      · exact neat_lots ok lm h6 bus lus
      · exact neat_lots ok lm h6 bfs lfs) (by show 3 ≤ 3; decide)).mono (by decide) (by decide)
    obtain ⟨q1, q2, q3⟩ := nD.repr (by decide) (by decide)
    have dqA : ∀ {Z : Hp} {u : Addr}, Same G14 Z → Z u = some (.tup [.ref tl, .ref ul, .ref fl]) → Dq anyA K Z (.ref u) (.tuple [toldD b xs, .list ((us.map (lotS ns)).map fun d => .tuple (d.map .str)), .list ((fs.map (lotS ns)).map fun d => .tuple (d.map .str))]) := fun s e => .tup trivial (.inl (.inl e)) (.cons (toldD_dq (et.same s)) (.cons (.lst trivial (.inl (.inl (s _ _ eu))) (tup_dqL (tu.same s))) (.cons (.lst trivial (.inl (.inl (s _ _ ef))) (tup_dqL (tf.same s))) .nil)))
    obtain ⟨kd, hkd⟩ : ∃ kd, kd = (PyData.tuple [toldD b xs, .list ((us.map (lotS ns)).map fun d => .tuple (d.map .str)), .list ((fs.map (lotS ns)).map fun d => .tuple (d.map .str))]).shown := ⟨_, rfl⟩
    refine ⟨fun σ Z => σ = [some (.ref a), some (.ref p), some (.int (0 + i)), some (natV w), some (.ref nl), some (natV (2 ^ m)), some (.ref sl), some (.ref al), some (.ref bl), some (.ref gl), some (.ref hl), some (.bl (coverB m gs bs)), some (.ref ul), some (.ref fl), some (.ref tl), some (.str kd), d16, d17, d18, d19] ∧ Same G14 Z, ?_, ?_⟩
    · refine ⟨.ref tl, rfl, .ref ul, rfl, .ref fl, rfl, by show 3 ≤ sizeLine; decide, fun u nu => ⟨.ref u, _, rfl, dqA (same_new nu) upd_same, q1, q2, q3, ?_⟩⟩
      rw [← hkd]
      exact ⟨rfl, same_new nu⟩
    rintro σ15 G15 ⟨rfl, s15⟩
    refine ⟨fun σ Z => σ = [some (.ref a), some (.ref p), some (.int (0 + i)), some (natV w), some (.ref nl), some (natV (2 ^ m)), some (.ref sl), some (.ref al), some (.ref bl), some (.ref gl), some (.ref hl), some (.bl (coverB m gs bs)), some (.ref ul), some (.ref fl), some (.ref tl), some (.str kd), some (.bl (coverB m gs bs)), d17, d18, d19] ∧ Same G14 Z, ?_, ?_⟩
    · refine ⟨.ref tl, rfl, .ref ul, rfl, .ref fl, rfl, ?_⟩
      dsimp only [tNil]
      refine ⟨tl, ul, fl, xs, ns, m, uws, fws, us, fs, rfl, (et.same s15).or, px, so, nd, lm, h6, s15 _ _ eu, tu.same s15, bus, lus, s15 _ _ ef, tf.same s15, bfs, lfs, fun Z s => ?_⟩
      rw [cover_perm pu pf]
      exact ⟨rfl, s15.trans s⟩
    clear s15
    rintro σ16 G16 ⟨rfl, s16⟩
    refine ⟨.bl (coverB m gs bs), rfl, .inr (.inl ⟨.bl (coverB m gs bs), .ty "bool", .type "bool", .type "bool", true, rfl, .ty _, .base (.bl _), rfl, true, rfl, iteF ?_⟩)⟩
    refine ⟨.bl (coverB m gs bs), rfl, .bl (coverB m gs bs), rfl, .inl ⟨by cases coverB m gs bs <;> rfl, ?_⟩⟩
    rw [decide_eq_true rfl]
    refine ⟨_, rfl, iteF ?_⟩
    refine ⟨.ref tl, rfl, .ref ul, rfl, .ref fl, rfl, by show 3 ≤ sizeLine; decide, fun u nu => ⟨.ref u, _, rfl, dqA (s16.trans (same_new nu)) upd_same, q1, q2, q3, .str kd, rfl, ?_⟩⟩
    rw [← hkd]
    refine .inl ⟨by kernel_rfl, ?_⟩
    rw [decide_eq_true rfl]
    exact ⟨_, rfl, iteF ⟨_, _, _, _, _, _, _, _, _, _, _, _, _, _, _, _, _, _, rfl, (pen14.same (s16.trans (same_new nu))).le (by omega)⟩⟩
end
end Wd

set_option Elab.async false
set_option linter.all false
set_option maxRecDepth 100000
set_option maxHeartbeats 8000000
namespace Wd
open PySem PySem.Spec PyProof.Rows L2
theorem all_mk {l : PySem.W.OpenLaw} {w : World} {K : PySem.W.Frag} {h : Heap} {mg : Str → Option Value} {fa : Addr} (X : K.In h) (G : h.Ns mainGlobals mg) (hfa : mg "law" = some (.ref fa))
    {fall_lots : Addr} {ocall_lots kVall_lots docall_lots pmall_lots ctall_lots : Value} {cdall_lots : Value} {odall_lots anall_lots : Option Addr} {slall_lots : Array (Option Value)}
    {fis_within : Addr} {ocis_within kVis_within docis_within pmis_within ctis_within : Value} {cdis_within : Value} {odis_within anis_within : Option Addr} {slis_within : Array (Option Value)}
    {fcovers : Addr} {occovers kVcovers doccovers pmcovers ctcovers : Value} {cdcovers : Value} {odcovers ancovers : Option Addr} {slcovers : Array (Option Value)}
    {f_law_pen : Addr} {oc_law_pen kV_law_pen doc_law_pen pm_law_pen ct_law_pen : Value} {cd_law_pen : Value} {od_law_pen an_law_pen : Option Addr} {sl_law_pen : Array (Option Value)}
    {f_law_draw : Addr} {oc_law_draw kV_law_draw doc_law_draw pm_law_draw ct_law_draw : Value} {cd_law_draw : Value} {od_law_draw an_law_draw : Option Addr} {sl_law_draw : Array (Option Value)}
    {f_law_pick : Addr} {oc_law_pick kV_law_pick doc_law_pick pm_law_pick ct_law_pick : Value} {cd_law_pick : Value} {od_law_pick an_law_pick : Option Addr} {sl_law_pick : Array (Option Value)}
    {f_law_shuffled : Addr} {oc_law_shuffled kV_law_shuffled doc_law_shuffled pm_law_shuffled ct_law_shuffled : Value} {cd_law_shuffled : Value} {od_law_shuffled an_law_shuffled : Option Addr} {sl_law_shuffled : Array (Option Value)}
    {f_law_names : Addr} {oc_law_names kV_law_names doc_law_names pm_law_names ct_law_names : Value} {cd_law_names : Value} {od_law_names an_law_names : Option Addr} {sl_law_names : Array (Option Value)}
    {f_law_parts : Addr} {oc_law_parts kV_law_parts doc_law_parts pm_law_parts ct_law_parts : Value} {cd_law_parts : Value} {od_law_parts an_law_parts : Option Addr} {sl_law_parts : Array (Option Value)}
    {f_law_lot : Addr} {oc_law_lot kV_law_lot doc_law_lot pm_law_lot ct_law_lot : Value} {cd_law_lot : Value} {od_law_lot an_law_lot : Option Addr} {sl_law_lot : Array (Option Value)}
    {f_law_bent_lots : Addr} {oc_law_bent_lots kV_law_bent_lots doc_law_bent_lots pm_law_bent_lots ct_law_bent_lots : Value} {cd_law_bent_lots : Value} {od_law_bent_lots an_law_bent_lots : Option Addr} {sl_law_bent_lots : Array (Option Value)}
    {f_law_due : Addr} {oc_law_due kV_law_due doc_law_due pm_law_due ct_law_due : Value} {cd_law_due : Value} {od_law_due an_law_due : Option Addr} {sl_law_due : Array (Option Value)}
    {flaw : Addr} {oclaw kVlaw doclaw pmlaw ctlaw : Value} {cdlaw : Value} {odlaw anlaw : Option Addr} {sllaw : Array (Option Value)}
    (aall_lots : PySem.W.nsIn K mainGlobals "all_lots" = some (some (.ref fall_lots)))
    (lall_lots : K.lookup fall_lots = some ⟨ocall_lots, odall_lots, .func (PySem.W.fnOf "all_lots" "all_lots" (C8.fnArgs s_all_lots) (C8.fnBody s_all_lots) (C8.fnScope s_all_lots) .none kVall_lots docall_lots pmall_lots anall_lots cdall_lots ctall_lots), slall_lots⟩)
    (vall_lots : PySem.W.codeIn K cdall_lots "all_lots" = true)
    (pall_lots : PySem.W.keepIn K (.ref fall_lots) = true)
    (ais_within : PySem.W.nsIn K mainGlobals "is_within" = some (some (.ref fis_within)))
    (lis_within : K.lookup fis_within = some ⟨ocis_within, odis_within, .func (PySem.W.fnOf "is_within" "is_within" (C8.fnArgs s_is_within) (C8.fnBody s_is_within) (C8.fnScope s_is_within) .none kVis_within docis_within pmis_within anis_within cdis_within ctis_within), slis_within⟩)
    (vis_within : PySem.W.codeIn K cdis_within "is_within" = true)
    (pis_within : PySem.W.keepIn K (.ref fis_within) = true)
    (acovers : PySem.W.nsIn K mainGlobals "covers" = some (some (.ref fcovers)))
    (lcovers : K.lookup fcovers = some ⟨occovers, odcovers, .func (PySem.W.fnOf "covers" "covers" (C8.fnArgs s_covers) (C8.fnBody s_covers) (C8.fnScope s_covers) .none kVcovers doccovers pmcovers ancovers cdcovers ctcovers), slcovers⟩)
    (vcovers : PySem.W.codeIn K cdcovers "covers" = true)
    (pcovers : PySem.W.keepIn K (.ref fcovers) = true)
    (a_law_pen : PySem.W.nsIn K mainGlobals "_law_pen" = some (some (.ref f_law_pen)))
    (l_law_pen : K.lookup f_law_pen = some ⟨oc_law_pen, od_law_pen, .func (PySem.W.fnOf "_law_pen" "_law_pen" (C8.fnArgs s__law_pen) (C8.fnBody s__law_pen) (C8.fnScope s__law_pen) .none kV_law_pen doc_law_pen pm_law_pen an_law_pen cd_law_pen ct_law_pen), sl_law_pen⟩)
    (v_law_pen : PySem.W.codeIn K cd_law_pen "_law_pen" = true)
    (p_law_pen : PySem.W.keepIn K (.ref f_law_pen) = true)
    (a_law_draw : PySem.W.nsIn K mainGlobals "_law_draw" = some (some (.ref f_law_draw)))
    (l_law_draw : K.lookup f_law_draw = some ⟨oc_law_draw, od_law_draw, .func (PySem.W.fnOf "_law_draw" "_law_draw" (C8.fnArgs s__law_draw) (C8.fnBody s__law_draw) (C8.fnScope s__law_draw) .none kV_law_draw doc_law_draw pm_law_draw an_law_draw cd_law_draw ct_law_draw), sl_law_draw⟩)
    (v_law_draw : PySem.W.codeIn K cd_law_draw "_law_draw" = true)
    (p_law_draw : PySem.W.keepIn K (.ref f_law_draw) = true)
    (a_law_pick : PySem.W.nsIn K mainGlobals "_law_pick" = some (some (.ref f_law_pick)))
    (l_law_pick : K.lookup f_law_pick = some ⟨oc_law_pick, od_law_pick, .func (PySem.W.fnOf "_law_pick" "_law_pick" (C8.fnArgs s__law_pick) (C8.fnBody s__law_pick) (C8.fnScope s__law_pick) .none kV_law_pick doc_law_pick pm_law_pick an_law_pick cd_law_pick ct_law_pick), sl_law_pick⟩)
    (v_law_pick : PySem.W.codeIn K cd_law_pick "_law_pick" = true)
    (p_law_pick : PySem.W.keepIn K (.ref f_law_pick) = true)
    (a_law_shuffled : PySem.W.nsIn K mainGlobals "_law_shuffled" = some (some (.ref f_law_shuffled)))
    (l_law_shuffled : K.lookup f_law_shuffled = some ⟨oc_law_shuffled, od_law_shuffled, .func (PySem.W.fnOf "_law_shuffled" "_law_shuffled" (C8.fnArgs s__law_shuffled) (C8.fnBody s__law_shuffled) (C8.fnScope s__law_shuffled) .none kV_law_shuffled doc_law_shuffled pm_law_shuffled an_law_shuffled cd_law_shuffled ct_law_shuffled), sl_law_shuffled⟩)
    (v_law_shuffled : PySem.W.codeIn K cd_law_shuffled "_law_shuffled" = true)
    (p_law_shuffled : PySem.W.keepIn K (.ref f_law_shuffled) = true)
    (a_law_names : PySem.W.nsIn K mainGlobals "_law_names" = some (some (.ref f_law_names)))
    (l_law_names : K.lookup f_law_names = some ⟨oc_law_names, od_law_names, .func (PySem.W.fnOf "_law_names" "_law_names" (C8.fnArgs s__law_names) (C8.fnBody s__law_names) (C8.fnScope s__law_names) .none kV_law_names doc_law_names pm_law_names an_law_names cd_law_names ct_law_names), sl_law_names⟩)
    (v_law_names : PySem.W.codeIn K cd_law_names "_law_names" = true)
    (p_law_names : PySem.W.keepIn K (.ref f_law_names) = true)
    (a_law_parts : PySem.W.nsIn K mainGlobals "_law_parts" = some (some (.ref f_law_parts)))
    (l_law_parts : K.lookup f_law_parts = some ⟨oc_law_parts, od_law_parts, .func (PySem.W.fnOf "_law_parts" "_law_parts" (C8.fnArgs s__law_parts) (C8.fnBody s__law_parts) (C8.fnScope s__law_parts) .none kV_law_parts doc_law_parts pm_law_parts an_law_parts cd_law_parts ct_law_parts), sl_law_parts⟩)
    (v_law_parts : PySem.W.codeIn K cd_law_parts "_law_parts" = true)
    (p_law_parts : PySem.W.keepIn K (.ref f_law_parts) = true)
    (a_law_lot : PySem.W.nsIn K mainGlobals "_law_lot" = some (some (.ref f_law_lot)))
    (l_law_lot : K.lookup f_law_lot = some ⟨oc_law_lot, od_law_lot, .func (PySem.W.fnOf "_law_lot" "_law_lot" (C8.fnArgs s__law_lot) (C8.fnBody s__law_lot) (C8.fnScope s__law_lot) .none kV_law_lot doc_law_lot pm_law_lot an_law_lot cd_law_lot ct_law_lot), sl_law_lot⟩)
    (v_law_lot : PySem.W.codeIn K cd_law_lot "_law_lot" = true)
    (p_law_lot : PySem.W.keepIn K (.ref f_law_lot) = true)
    (a_law_bent_lots : PySem.W.nsIn K mainGlobals "_law_bent_lots" = some (some (.ref f_law_bent_lots)))
    (l_law_bent_lots : K.lookup f_law_bent_lots = some ⟨oc_law_bent_lots, od_law_bent_lots, .func (PySem.W.fnOf "_law_bent_lots" "_law_bent_lots" (C8.fnArgs s__law_bent_lots) (C8.fnBody s__law_bent_lots) (C8.fnScope s__law_bent_lots) .none kV_law_bent_lots doc_law_bent_lots pm_law_bent_lots an_law_bent_lots cd_law_bent_lots ct_law_bent_lots), sl_law_bent_lots⟩)
    (v_law_bent_lots : PySem.W.codeIn K cd_law_bent_lots "_law_bent_lots" = true)
    (p_law_bent_lots : PySem.W.keepIn K (.ref f_law_bent_lots) = true)
    (a_law_due : PySem.W.nsIn K mainGlobals "_law_due" = some (some (.ref f_law_due)))
    (l_law_due : K.lookup f_law_due = some ⟨oc_law_due, od_law_due, .func (PySem.W.fnOf "_law_due" "_law_due" (C8.fnArgs s__law_due) (C8.fnBody s__law_due) (C8.fnScope s__law_due) .none kV_law_due doc_law_due pm_law_due an_law_due cd_law_due ct_law_due), sl_law_due⟩)
    (v_law_due : PySem.W.codeIn K cd_law_due "_law_due" = true)
    (p_law_due : PySem.W.keepIn K (.ref f_law_due) = true)
    (alaw : PySem.W.nsIn K mainGlobals "law" = some (some (.ref flaw)))
    (llaw : K.lookup flaw = some ⟨oclaw, odlaw, .func (PySem.W.fnOf "law" "law" (C8.fnArgs s_law) (C8.fnBody s_law) (C8.fnScope s_law) .none kVlaw doclaw pmlaw anlaw cdlaw ctlaw), sllaw⟩)
    (vlaw : PySem.W.codeIn K cdlaw "law" = true)
    (plaw : PySem.W.keepIn K (.ref flaw) = true)
    (zall : PySem.W.nsIn K mainGlobals "all" = some none)
    (zbool : PySem.W.nsIn K mainGlobals "bool" = some none)
    (zany : PySem.W.nsIn K mainGlobals "any" = some none)
    (zlen : PySem.W.nsIn K mainGlobals "len" = some none)
    (zabs : PySem.W.nsIn K mainGlobals "abs" = some none)
    (zlist : PySem.W.nsIn K mainGlobals "list" = some none)
    (zrange : PySem.W.nsIn K mainGlobals "range" = some none)
    (zmin : PySem.W.nsIn K mainGlobals "min" = some none)
    (zmax : PySem.W.nsIn K mainGlobals "max" = some none)
    (zsum : PySem.W.nsIn K mainGlobals "sum" = some none)
    (zsorted : PySem.W.nsIn K mainGlobals "sorted" = some none)
    (ztuple : PySem.W.nsIn K mainGlobals "tuple" = some none)
    (zint : PySem.W.nsIn K mainGlobals "int" = some none)
    (zstr : PySem.W.nsIn K mainGlobals "str" = some none)
    (zisinstance : PySem.W.nsIn K mainGlobals "isinstance" = some none)
    (zrepr : PySem.W.nsIn K mainGlobals "repr" = some none)
    (zdict : PySem.W.nsIn K mainGlobals "dict" = some none)
    (zzip : PySem.W.nsIn K mainGlobals "zip" = some none)
    (zKeyError : PySem.W.nsIn K mainGlobals "KeyError" = some none) :
    ∃ fd : FuncData, (∀ (s : Shared) (v : Value), BindsTo s fd ⟨[v], []⟩ [("script", v)]) ∧ ∀ base : Heap, K.In base → base.Ns mainGlobals mg → FnG l.prog w K mg base CX0 5 fa fd ["script"] (spLaw K) := by
  have e := hfa.symm.trans (PySem.W.mg_of X G alaw)
  cases e
  have Dall_lots : C8.Def K mg "all_lots" s_all_lots fall_lots (PySem.W.fnOf "all_lots" "all_lots" (C8.fnArgs s_all_lots) (C8.fnBody s_all_lots) (C8.fnScope s_all_lots) .none kVall_lots docall_lots pmall_lots anall_lots cdall_lots ctall_lots) := ⟨⟨⟨_, _, _, _, _, _, _, _, _, _, rfl, lall_lots, vall_lots⟩⟩, PySem.W.mg_of X G aall_lots, pall_lots⟩
  have ball_lots : Binds K (PySem.W.fnOf "all_lots" "all_lots" (C8.fnArgs s_all_lots) (C8.fnBody s_all_lots) (C8.fnScope s_all_lots) .none kVall_lots docall_lots pmall_lots anall_lots cdall_lots ctall_lots) ["names"] [] := .all fun us hl => match us, hl with | [_], _ => rfl
  have Dis_within : C8.Def K mg "is_within" s_is_within fis_within (PySem.W.fnOf "is_within" "is_within" (C8.fnArgs s_is_within) (C8.fnBody s_is_within) (C8.fnScope s_is_within) .none kVis_within docis_within pmis_within anis_within cdis_within ctis_within) := ⟨⟨⟨_, _, _, _, _, _, _, _, _, _, rfl, lis_within, vis_within⟩⟩, PySem.W.mg_of X G ais_within, pis_within⟩
  have bis_within : Binds K (PySem.W.fnOf "is_within" "is_within" (C8.fnArgs s_is_within) (C8.fnBody s_is_within) (C8.fnScope s_is_within) .none kVis_within docis_within pmis_within anis_within cdis_within ctis_within) ["lot", "other"] [] := .all fun us hl => match us, hl with | [_, _], _ => rfl
  have Dcovers : C8.Def K mg "covers" s_covers fcovers (PySem.W.fnOf "covers" "covers" (C8.fnArgs s_covers) (C8.fnBody s_covers) (C8.fnScope s_covers) .none kVcovers doccovers pmcovers ancovers cdcovers ctcovers) := ⟨⟨⟨_, _, _, _, _, _, _, _, _, _, rfl, lcovers, vcovers⟩⟩, PySem.W.mg_of X G acovers, pcovers⟩
  have bcovers : Binds K (PySem.W.fnOf "covers" "covers" (C8.fnArgs s_covers) (C8.fnBody s_covers) (C8.fnScope s_covers) .none kVcovers doccovers pmcovers ancovers cdcovers ctcovers) ["names", "does", "fails"] [] := .all fun us hl => match us, hl with | [_, _, _], _ => rfl
  have D_law_pen : C8.Def K mg "_law_pen" s__law_pen f_law_pen (PySem.W.fnOf "_law_pen" "_law_pen" (C8.fnArgs s__law_pen) (C8.fnBody s__law_pen) (C8.fnScope s__law_pen) .none kV_law_pen doc_law_pen pm_law_pen an_law_pen cd_law_pen ct_law_pen) := ⟨⟨⟨_, _, _, _, _, _, _, _, _, _, rfl, l_law_pen, v_law_pen⟩⟩, PySem.W.mg_of X G a_law_pen, p_law_pen⟩
  have b_law_pen : Binds K (PySem.W.fnOf "_law_pen" "_law_pen" (C8.fnArgs s__law_pen) (C8.fnBody s__law_pen) (C8.fnScope s__law_pen) .none kV_law_pen doc_law_pen pm_law_pen an_law_pen cd_law_pen ct_law_pen) ["script"] [] := .all fun us hl => match us, hl with | [_], _ => rfl
  have D_law_draw : C8.Def K mg "_law_draw" s__law_draw f_law_draw (PySem.W.fnOf "_law_draw" "_law_draw" (C8.fnArgs s__law_draw) (C8.fnBody s__law_draw) (C8.fnScope s__law_draw) .none kV_law_draw doc_law_draw pm_law_draw an_law_draw cd_law_draw ct_law_draw) := ⟨⟨⟨_, _, _, _, _, _, _, _, _, _, rfl, l_law_draw, v_law_draw⟩⟩, PySem.W.mg_of X G a_law_draw, p_law_draw⟩
  have b_law_draw : Binds K (PySem.W.fnOf "_law_draw" "_law_draw" (C8.fnArgs s__law_draw) (C8.fnBody s__law_draw) (C8.fnScope s__law_draw) .none kV_law_draw doc_law_draw pm_law_draw an_law_draw cd_law_draw ct_law_draw) ["pen", "many"] [] := .all fun us hl => match us, hl with | [_, _], _ => rfl
  have D_law_pick : C8.Def K mg "_law_pick" s__law_pick f_law_pick (PySem.W.fnOf "_law_pick" "_law_pick" (C8.fnArgs s__law_pick) (C8.fnBody s__law_pick) (C8.fnScope s__law_pick) .none kV_law_pick doc_law_pick pm_law_pick an_law_pick cd_law_pick ct_law_pick) := ⟨⟨⟨_, _, _, _, _, _, _, _, _, _, rfl, l_law_pick, v_law_pick⟩⟩, PySem.W.mg_of X G a_law_pick, p_law_pick⟩
  have b_law_pick : Binds K (PySem.W.fnOf "_law_pick" "_law_pick" (C8.fnArgs s__law_pick) (C8.fnBody s__law_pick) (C8.fnScope s__law_pick) .none kV_law_pick doc_law_pick pm_law_pick an_law_pick cd_law_pick ct_law_pick) ["pen", "some"] [] := .all fun us hl => match us, hl with | [_, _], _ => rfl
  have D_law_shuffled : C8.Def K mg "_law_shuffled" s__law_shuffled f_law_shuffled (PySem.W.fnOf "_law_shuffled" "_law_shuffled" (C8.fnArgs s__law_shuffled) (C8.fnBody s__law_shuffled) (C8.fnScope s__law_shuffled) .none kV_law_shuffled doc_law_shuffled pm_law_shuffled an_law_shuffled cd_law_shuffled ct_law_shuffled) := ⟨⟨⟨_, _, _, _, _, _, _, _, _, _, rfl, l_law_shuffled, v_law_shuffled⟩⟩, PySem.W.mg_of X G a_law_shuffled, p_law_shuffled⟩
  have b_law_shuffled : Binds K (PySem.W.fnOf "_law_shuffled" "_law_shuffled" (C8.fnArgs s__law_shuffled) (C8.fnBody s__law_shuffled) (C8.fnScope s__law_shuffled) .none kV_law_shuffled doc_law_shuffled pm_law_shuffled an_law_shuffled cd_law_shuffled ct_law_shuffled) ["pen", "some"] [] := .all fun us hl => match us, hl with | [_, _], _ => rfl
  have D_law_names : C8.Def K mg "_law_names" s__law_names f_law_names (PySem.W.fnOf "_law_names" "_law_names" (C8.fnArgs s__law_names) (C8.fnBody s__law_names) (C8.fnScope s__law_names) .none kV_law_names doc_law_names pm_law_names an_law_names cd_law_names ct_law_names) := ⟨⟨⟨_, _, _, _, _, _, _, _, _, _, rfl, l_law_names, v_law_names⟩⟩, PySem.W.mg_of X G a_law_names, p_law_names⟩
  have b_law_names : Binds K (PySem.W.fnOf "_law_names" "_law_names" (C8.fnArgs s__law_names) (C8.fnBody s__law_names) (C8.fnScope s__law_names) .none kV_law_names doc_law_names pm_law_names an_law_names cd_law_names ct_law_names) ["pen", "many"] [] := .all fun us hl => match us, hl with | [_, _], _ => rfl
  have D_law_parts : C8.Def K mg "_law_parts" s__law_parts f_law_parts (PySem.W.fnOf "_law_parts" "_law_parts" (C8.fnArgs s__law_parts) (C8.fnBody s__law_parts) (C8.fnScope s__law_parts) .none kV_law_parts doc_law_parts pm_law_parts an_law_parts cd_law_parts ct_law_parts) := ⟨⟨⟨_, _, _, _, _, _, _, _, _, _, rfl, l_law_parts, v_law_parts⟩⟩, PySem.W.mg_of X G a_law_parts, p_law_parts⟩
  have b_law_parts : Binds K (PySem.W.fnOf "_law_parts" "_law_parts" (C8.fnArgs s__law_parts) (C8.fnBody s__law_parts) (C8.fnScope s__law_parts) .none kV_law_parts doc_law_parts pm_law_parts an_law_parts cd_law_parts ct_law_parts) ["count"] [] := .all fun us hl => match us, hl with | [_], _ => rfl
  have D_law_lot : C8.Def K mg "_law_lot" s__law_lot f_law_lot (PySem.W.fnOf "_law_lot" "_law_lot" (C8.fnArgs s__law_lot) (C8.fnBody s__law_lot) (C8.fnScope s__law_lot) .none kV_law_lot doc_law_lot pm_law_lot an_law_lot cd_law_lot ct_law_lot) := ⟨⟨⟨_, _, _, _, _, _, _, _, _, _, rfl, l_law_lot, v_law_lot⟩⟩, PySem.W.mg_of X G a_law_lot, p_law_lot⟩
  have b_law_lot : Binds K (PySem.W.fnOf "_law_lot" "_law_lot" (C8.fnArgs s__law_lot) (C8.fnBody s__law_lot) (C8.fnScope s__law_lot) .none kV_law_lot doc_law_lot pm_law_lot an_law_lot cd_law_lot ct_law_lot) ["names", "count"] [] := .all fun us hl => match us, hl with | [_, _], _ => rfl
  have D_law_bent_lots : C8.Def K mg "_law_bent_lots" s__law_bent_lots f_law_bent_lots (PySem.W.fnOf "_law_bent_lots" "_law_bent_lots" (C8.fnArgs s__law_bent_lots) (C8.fnBody s__law_bent_lots) (C8.fnScope s__law_bent_lots) .none kV_law_bent_lots doc_law_bent_lots pm_law_bent_lots an_law_bent_lots cd_law_bent_lots ct_law_bent_lots) := ⟨⟨⟨_, _, _, _, _, _, _, _, _, _, rfl, l_law_bent_lots, v_law_bent_lots⟩⟩, PySem.W.mg_of X G a_law_bent_lots, p_law_bent_lots⟩
  have b_law_bent_lots : Binds K (PySem.W.fnOf "_law_bent_lots" "_law_bent_lots" (C8.fnArgs s__law_bent_lots) (C8.fnBody s__law_bent_lots) (C8.fnScope s__law_bent_lots) .none kV_law_bent_lots doc_law_bent_lots pm_law_bent_lots an_law_bent_lots cd_law_bent_lots ct_law_bent_lots) ["pen", "count", "good", "bad"] [] := .all fun us hl => match us, hl with | [_, _, _, _], _ => rfl
  have D_law_due : C8.Def K mg "_law_due" s__law_due f_law_due (PySem.W.fnOf "_law_due" "_law_due" (C8.fnArgs s__law_due) (C8.fnBody s__law_due) (C8.fnScope s__law_due) .none kV_law_due doc_law_due pm_law_due an_law_due cd_law_due ct_law_due) := ⟨⟨⟨_, _, _, _, _, _, _, _, _, _, rfl, l_law_due, v_law_due⟩⟩, PySem.W.mg_of X G a_law_due, p_law_due⟩
  have b_law_due : Binds K (PySem.W.fnOf "_law_due" "_law_due" (C8.fnArgs s__law_due) (C8.fnBody s__law_due) (C8.fnScope s__law_due) .none kV_law_due doc_law_due pm_law_due an_law_due cd_law_due ct_law_due) ["count", "good", "bad"] [] := .all fun us hl => match us, hl with | [_, _, _], _ => rfl
  have Dlaw : C8.Def K mg "law" s_law fa (PySem.W.fnOf "law" "law" (C8.fnArgs s_law) (C8.fnBody s_law) (C8.fnScope s_law) .none kVlaw doclaw pmlaw anlaw cdlaw ctlaw) := ⟨⟨⟨_, _, _, _, _, _, _, _, _, _, rfl, llaw, vlaw⟩⟩, PySem.W.mg_of X G alaw, plaw⟩
  have blaw : Binds K (PySem.W.fnOf "law" "law" (C8.fnArgs s_law) (C8.fnBody s_law) (C8.fnScope s_law) .none kVlaw doclaw pmlaw anlaw cdlaw ctlaw) ["script"] [] := .all fun us hl => match us, hl with | [_], _ => rfl
  refine ⟨PySem.W.fnOf "law" "law" (C8.fnArgs s_law) (C8.fnBody s_law) (C8.fnScope s_law) .none kVlaw doclaw pmlaw anlaw cdlaw ctlaw, fun s v => .of_eq rfl, fun base _ _ => ?_⟩
  have T : Txt l.prog w K mg base ⟨⟩ := {
    b_len := PySem.W.mg_none_of X G zlen
    b_abs := PySem.W.mg_none_of X G zabs
    b_list := PySem.W.mg_none_of X G zlist
    b_range := PySem.W.mg_none_of X G zrange
    b_min := PySem.W.mg_none_of X G zmin
    b_max := PySem.W.mg_none_of X G zmax
    b_sum := PySem.W.mg_none_of X G zsum
    b_sorted := PySem.W.mg_none_of X G zsorted
    b_tuple := PySem.W.mg_none_of X G ztuple
    b_int := PySem.W.mg_none_of X G zint
    b_str := PySem.W.mg_none_of X G zstr
    b_isinstance := PySem.W.mg_none_of X G zisinstance
    b_repr := PySem.W.mg_none_of X G zrepr
    b_dict := PySem.W.mg_none_of X G zdict
    b_zip := PySem.W.mg_none_of X G zzip
    b_KeyError := PySem.W.mg_none_of X G zKeyError }
  have cd := c_draw T D_law_draw b_law_draw
  have cp := c_pick T cd D_law_pick b_law_pick
  have pen := c_pen T D_law_pen b_law_pen
  have nm := c_names T cd cp D_law_names b_law_names
  have sf := c_shuf T cd D_law_shuffled b_law_shuffled
  have al := c_allLots T Dall_lots ball_lots
  have wi := c_within T (PySem.W.mg_none_of X G zall) Dis_within bis_within
  have co := c_covers T (PySem.W.mg_none_of X G zany) al wi Dcovers bcovers
  have pa := c_parts T D_law_parts b_law_parts
  have lo := c_lot T pa D_law_lot b_law_lot
  have du := c_dueL T D_law_due b_law_due
  have bt := c_bentL T cd D_law_bent_lots b_law_bent_lots
  exact c_law T (PySem.W.mg_none_of X G zbool) pen cd nm sf bt du lo co Dlaw
end Wd

set_option Elab.async false
set_option linter.all false
set_option maxRecDepth 100000
open PySem PySem.W PyProof.Rows
set_option maxHeartbeats 0 in
theorem PySem.Challenge.cw_weighdoors_k61_lots_that_cover_holds : PySem.Challenge.rw_weighdoors_k61_lots_that_cover.Holds := by
  w_on; o_law; k_head; (case hw => w_witness2)
  k_fill
  refine Wd.walk_g (l := PySem.Challenge.rw_weighdoors_k61_lots_that_cover) (n := 63) (k := 5) (x := "script") (sp := fun w => Wd.spLaw _) rfl (by decide) rfl ⟨rfl, by decide, by decide⟩ (fun w h Y => PySem.W.kIn_of Y) ?F (fun _ _ a ks hl _ hS => ⟨a, ks, rfl, hS, hl, fun _ => rfl⟩)
  case F =>
    intro w mg fa h KX G hmg
    refine' Wd.all_mk KX G hmg ?aall_lots ?lall_lots ?vall_lots ?pall_lots ?ais_within ?lis_within ?vis_within ?pis_within ?acovers ?lcovers ?vcovers ?pcovers ?a_law_pen ?l_law_pen ?v_law_pen ?p_law_pen ?a_law_draw ?l_law_draw ?v_law_draw ?p_law_draw ?a_law_pick ?l_law_pick ?v_law_pick ?p_law_pick ?a_law_shuffled ?l_law_shuffled ?v_law_shuffled ?p_law_shuffled ?a_law_names ?l_law_names ?v_law_names ?p_law_names ?a_law_parts ?l_law_parts ?v_law_parts ?p_law_parts ?a_law_lot ?l_law_lot ?v_law_lot ?p_law_lot ?a_law_bent_lots ?l_law_bent_lots ?v_law_bent_lots ?p_law_bent_lots ?a_law_due ?l_law_due ?v_law_due ?p_law_due ?alaw ?llaw ?vlaw ?plaw ?zall ?zbool ?zany ?zlen ?zabs ?zlist ?zrange ?zmin ?zmax ?zsum ?zsorted ?ztuple ?zint ?zstr ?zisinstance ?zrepr ?zdict ?zzip ?zKeyError
    (case aall_lots => k_is); (case lall_lots => k_is); (case vall_lots => k_is); (case pall_lots => k_is); (case ais_within => k_is); (case lis_within => k_is)
    (case vis_within => k_is); (case pis_within => k_is); (case acovers => k_is); (case lcovers => k_is); (case vcovers => k_is); (case pcovers => k_is)
    (case a_law_pen => k_is); (case l_law_pen => k_is); (case v_law_pen => k_is); (case p_law_pen => k_is); (case a_law_draw => k_is); (case l_law_draw => k_is)
    (case v_law_draw => k_is); (case p_law_draw => k_is); (case a_law_pick => k_is); (case l_law_pick => k_is); (case v_law_pick => k_is); (case p_law_pick => k_is)
    (case a_law_shuffled => k_is); (case l_law_shuffled => k_is); (case v_law_shuffled => k_is); (case p_law_shuffled => k_is); (case a_law_names => k_is); (case l_law_names => k_is)
    (case v_law_names => k_is); (case p_law_names => k_is); (case a_law_parts => k_is); (case l_law_parts => k_is); (case v_law_parts => k_is); (case p_law_parts => k_is)
    (case a_law_lot => k_is); (case l_law_lot => k_is); (case v_law_lot => k_is); (case p_law_lot => k_is); (case a_law_bent_lots => k_is); (case l_law_bent_lots => k_is)
    (case v_law_bent_lots => k_is); (case p_law_bent_lots => k_is); (case a_law_due => k_is); (case l_law_due => k_is); (case v_law_due => k_is); (case p_law_due => k_is)
    (case alaw => k_is); (case llaw => k_is); (case vlaw => k_is); (case plaw => k_is); (case zall => k_is); (case zbool => k_is)
    (case zany => k_is); (case zlen => k_is); (case zabs => k_is); (case zlist => k_is); (case zrange => k_is); (case zmin => k_is)
    (case zmax => k_is); (case zsum => k_is); (case zsorted => k_is); (case ztuple => k_is); (case zint => k_is); (case zstr => k_is)
    (case zisinstance => k_is); (case zrepr => k_is); (case zdict => k_is); (case zzip => k_is); (case zKeyError => k_is)
