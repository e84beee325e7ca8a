import PyProof.Rows.All
import Wide.All
import OpenK.AllK
import Wide.FinOn
import HandS.ForMost
import HandS.Wide
import HandS.Style
import HandS.Flow
import HandS.RaiseMore
import HandS.Defaults
import HandS.MakeKwOnly
import HandS.Evl
import KE.DataCmp
import HandS.Property
import HandS.Comp
import HandS.DictComp
import HandS.ExcInit
import HandS.ExcIs
import HandS.More
import HandS.Star
import HandS.Strs
import HandS.TryOnly
import HandS.CallSlots
import HandS.WordsExc
import HandS.GenList
import HandS.GenYield
import KE.SortData
import KE.DataMinMax
import HandS.Iter
import KE.KItemsList
import HandS.NamedTupSort
import HandS.Deep
import HandS.NamedTupGet
import HandS.Walk
import HandS.Zip
import PyProof.StrBlock2
import KE.GoesEnum
import HandS.SetFor
import PyProof.SeqIndex
import HandS.SetKeys
import HandS.TupAny
import HandS.IsInst
import HandS.FStr
import HandS.ClsMeth
import PyProof.TupleOfSeq
import KE.SortCalls
import PyProof.EqKinds
import PyProof.EqAt
import PyProof.NeData
import PyProof.P3In
import OpenK.XHead
import HandS.SetTxt0
import PyProof.Rows.StrRev
import PyProof.Ascii
import PyProof.FitsInt
import PyProof.Rows.ReprOcc
import HandS.ExcField
import HandS.JoinGen
import PySem.Challenge.RW_ownwake_k01_schemas_of_any_values
set_option Elab.async false
set_option maxRecDepth 100000
/-! defs that are called where nothing is being shown (repr): the layer's own def rule with that one fact carried along -/
namespace Own
open PySem PySem.Spec PyProof.Rows L2

abbrev Quiet (A : Around) : Prop := A.guards = some []

/-- a def that keeps sp, called where nothing is being shown -/
structure GOk (P : Program) (w : World) (K : PySem.W.Frag) (mg : Str → Option Value) (g0 : Heap) (Z : CXT) (k : Nat)
    (f : Addr) (fd : FuncData) (ps : List Str) (sp : Sp) : Prop where
  len : ∀ vs H Q E, sp vs H Q E → vs.length = ps.length
  run : ∀ (A : Around) (up : List Env) (s : Shared) (H : Hp) (as : Args) (us : List Value) (vs : List V) (Q : VK) (E : XK),
    Quiet A → Room k A → Env0 P w K mg g0 A up s H → BindsTo s fd as (ps.zip us) → Vals vs us → sp vs H Q E →
    codeAny (model P w) A (.call (.ref f) as) (CR Z up P w H s Q E) s

section
variable {P : Program} {w : World} {K : PySem.W.Frag} {mg : Str → Option Value} {g0 : Heap} {Z : CXT} {k j : Nat}
  {f : Addr} {fd : FuncData} {ps : List Str} {sp : Sp}
theorem GOk.of (F : FnOk P w K mg g0 Z k f fd ps sp) : GOk P w K mg g0 Z k f fd ps sp :=
  ⟨F.len, fun A up s H as us vs Q E _ => F.run A up s H as us vs Q E⟩
theorem GOk.mono (F : GOk P w K mg g0 Z j f fd ps sp) (h : j ≤ k) : GOk P w K mg g0 Z k f fd ps sp :=
  ⟨F.len, fun A up s H as us vs Q E q r => F.run A up s H as us vs Q E q (r.mono h)⟩
end

section
variable {X : Cx} {Z : CXT} {k : Nat} {f : Addr} {fd : FuncData} {ps : List Str} {sp : Sp} {dvs : List V} {ds : List Value}
  {E : XK} {x : Str} {p pos : Pos} {e : Expr} {es : List Expr} {t : TA}

theorem goRun {pins : List (Addr × Obj)} {σ : L2.St} {H : Hp} {s : Shared} {Q : VK} {us : List Value} {vs : List V}
    (qt : Quiet X.A) (F : GOk X.prog X.w X.K X.mg X.base Z k f fd ps sp) (room : Room k X.A)
    (bd : Binds X.K fd ps ds) (dv : Vals dvs ds) (px : Passes Z X E) (I : Inv X pins σ H s) (rv : Vals vs us)
    (q : sp (vs ++ dvs) H Q E) : wpAny (model X.prog X.w) X.A (call (.ref f) us) (EP X pins σ Q) X.xe s := by
  have rr : Vals (vs ++ dvs) (us ++ ds) := rv.append dv
  have ll : (us ++ ds).length = ps.length := rr.length.symm.trans (F.len _ _ _ _ q)
  have cc := F.run X.A X.stack s H ⟨us, []⟩ (us ++ ds) (vs ++ dvs) Q E qt room I.env0 (bd s us I.kIn ll) rr q
  refine wpAny_call (codeAny_mono cc ?_)
  intro r s' z
  match r, z with
  | .error e, z => exact px pins σ H s e s' I z
  | .ok (.ret u), z => exact I.after z
  | .ok .next, z => exact z.elim
  | .ok .brk, z => exact z.elim
  | .ok .cont, z => exact z.elim

/-- f(e, ..) -/
theorem pe_callG (qt : Quiet X.A) (F : GOk X.prog X.w X.K X.mg X.base Z k f fd ps sp) (room : Room k X.A) (gl : Gl X x)
    (at_ : X.mg x = some (.ref f)) (kp : PySem.W.keepIn X.K (.ref f) = true) (bd : Binds X.K fd ps ds) (dv : Vals dvs ds)
    (px : Passes Z X E) (pa : PA X (e :: es) t) (nodbg : (x == ("__debug__" : Str)) = false := by decide)
    (st : starEach (e :: es) X.env = (false, eval e X.env) :: starEach es X.env := by rfl)
    (pl : (backTo pos (starEach es X.env)).any (·.1) = false := by rfl) :
    PE X (.Call (.Name x p) (e :: es) [] pos) (tCall sp dvs E t) := by
  constructor
  intro pins s σ H Q I q
  refine wpAny_Call_Name_kw (ld_glob I gl at_ ?_ nodbg)
  refine PySem.W.callWith_K (h₀ := X.base) I.ok.mod.kin kp ?_ st pl
  exact thn (pa.run pos pins s σ H _ I q) fun us s1 ⟨vs, H1, I1, rv, q1⟩ => ⟨I1.kIn, goRun qt F room bd dv px I1 rv q1⟩
end

/-- a def of the text, by its body, where nothing is being shown -/
theorem okG {P : Program} {w : World} {K : PySem.W.Frag} {mg : Str → Option Value} {g0 : Heap} {x qual : Str} {st : Stmt} {f : Addr}
    {fd : FuncData} {N ps : List Str} {k : Nat} {sp : Sp} (F : Fun K x qual st f fd) (S : FnScope N ps (defScope st))
    (len : ∀ vs H Q E, sp vs H Q E → vs.length = ps.length)
    (body : ∀ (cdv : Value) (A : Around) (up : List Env) (s : Shared) (H : Hp) (vs : List V) (Q : VK) (E : XK), Quiet A →
      Room k (A.deeper (envOfC qual (defScope st) s.heap.objs.size f cdv)) → sp vs H Q E →
      ∃ t, PSs (cxOf CX0 P w K mg g0 N qual (defScope st) f cdv A up s H E).nox (defBody st) t ∧
        t { nx := fun _ H' => Q .non H', rt := Q } (start N vs) H) : GOk P w K mg g0 CX0 (k + 1) f fd ps sp := by
  obtain ⟨oc, od, kV, doc, pm, an, cdv, ct, osl, rfl, lk, hcd⟩ := F.ex
  refine ⟨len, ?_⟩
  intro A up s H as us vs Q E qt room e0 bd rv q
  have ll := len _ _ _ _ q
  have kk : K.In s.heap := e0.mod.kin.keeps fun b o e => (e0.bs b o e).1
  have nolim : s.heap.NoLimit := e0.mod.nolimit.keeps fun b o e => (e0.bs b o e).1
  have names : ∀ y ∈ ps.zip us, (defScope st).names.lookup y.1 = some .local ∨
      ((defScope st).names.lookup y.1 = some .cell ∧
        ((cellsFrom (s.heap.objs.size + 1) (defScope st).names []).lookup y.1).isSome = true) := by
    rintro ⟨n, v⟩ hy
    exact (S.par n (List.of_mem_zip hy).1).imp id fun z => ⟨z, PySem.W.cellsFrom_some _ _ _ (.inl z)⟩
  refine codeAny_call_function room.depth (kk _ _ lk) rfl S.co S.gen rfl (PySem.W.codeRec_of kk hcd) (bd _ _ _ _ ?_)
  refine wpAny_newFunctionEnv_cells S.kind names ?_
  intro env he s1 ic
  subst he
  refine ⟨nolim.keeps ic.toInCall.keep, codeAny_func ?_⟩
  obtain ⟨t, pt, rd⟩ := body cdv A up s H vs Q E qt (room.deeper _) q
  have I := inv_start (CX := CX0) (E := E) S room.hd e0 ll rv ic
  have run := (PSs.nox pt).run [] s1 (start N vs) H _ I rd
  refine wpAny_mono run ?_ fun e s' z => z
  intro fl s' z
  have fin : ∀ {σ' : L2.St} {H' : Hp} {v : V} {u : Value},
      Inv (cxOf CX0 P w K mg g0 N qual (defScope st) f cdv A up s H E) [] σ' H' s' → RelV v u → Q v H' → CE up P w H s Q u s' := by
    intro σ' H' v u J rr qq
    exact ⟨v, H', J.os, J.bare, J.base, J.hok, rr, qq⟩
  match fl, z with
  | .ret u, ⟨v, σ', H', J, rr, qq⟩ => exact fin J rr qq
  | .next, ⟨σ', H', J, qq⟩ => exact fin (v := V.non) (u := Value.none) J rfl qq
  | .brk, ⟨_, _, _, z⟩ => exact z.elim
  | .cont, ⟨_, _, _, z⟩ => exact z.elim

theorem quiet_deeper {A : Around} {env : Env} (q : Quiet A) : Quiet (A.deeper env) := q
theorem quiet_caller : Quiet callerA := rfl

/-! ### repr of data -/
mutual
theorem dp_nodict {K : PySem.W.Frag} {H : Hp} : ∀ {d : PyData} {v : V}, Dp K H v d → d.hasDict = false
  | .none, _, _ => rfl
  | .bool _, _, _ => rfl
  | .int _, _, _ => rfl
  | .str _, _, _ => rfl
  | .list _, _, .lst _ a => dps_nodict a
  | .tuple _, _, .tup _ a => dps_nodict a
theorem dps_nodict {K : PySem.W.Frag} {H : Hp} : ∀ {ds : List PyData} {vs : List V}, DpAll K H vs ds → PyData.hasDictAll ds = false
  | [], _, _ => rfl
  | _ :: _, _, .cons a b => by
    show (_ || _) = false
    rw [dp_nodict a, dps_nodict b]
    rfl
end
/-- repr(x), x data -/
def rRepr (K : PySem.W.Frag) : List V → Hp → VK → Prop := fun xs H Q =>
  ∃ x d, xs = [x] ∧ Dp K H x d ∧ d.showable = true ∧ d.depth ≤ 60 ∧ d.shown.length ≤ sizeLine ∧ Q (.str d.shown) H
theorem call_repr {X : Cx} (qt : Quiet X.A) (hu : X.A.units + 64 < cLine) : CallR X (.builtin "repr") (rRepr X.K) := by
  intro pins s σ H xs us Q I rv h
  obtain ⟨x, d, rfl, hd, hs, hz, hl, q⟩ := h
  obtain ⟨u, rfl, rx⟩ : ∃ u, us = [u] ∧ RelV x u := by
    cases rv with
    | cons a b =>
      cases b
      exact ⟨_, rfl, a⟩
  obtain ⟨as, rd⟩ := Dp.reads I d x u hd rx
  have nd := dp_nodict hd
  cases hd with
  | non =>
    cases rx
    exact P.repr_of_none ⟨.str "None", H, I.tok _, ⟨_, rfl⟩, q⟩
  | bl b =>
    cases rx
    exact P.repr_of_bool ⟨.str (if b then "True" else "False"), H, I.tok _, ⟨_, rfl⟩, q⟩
  | int i =>
    obtain ⟨t, rfl⟩ := rx
    refine P.repr_of_int ?_ ⟨.str (toString i), H, I.tok _, ⟨_, rfl⟩, q⟩
    simpa [PyData.showable] using hs
  | str y =>
    obtain ⟨t, rfl⟩ := rx
    exact P.repr_of_str ⟨.str (reprText y), H, I.tok _, ⟨_, rfl⟩, q⟩ hl
  | lst _ _ =>
    cases rx
    exact repr_of_reads' rd hs (fun z => by rw [nd] at z; cases z) qt (by omega) (fun _ _ z => z)
      (fun h' w tk k => ⟨.str _, H, I.kept k, ⟨_, rfl⟩, q⟩) hl
  | tup _ _ =>
    cases rx
    exact repr_of_reads' rd hs (fun z => by rw [nd] at z; cases z) qt (by omega) (fun _ _ z => z)
      (fun h' w tk k => ⟨.str _, H, I.kept k, ⟨_, rfl⟩, q⟩) hl

/-! ### a < b, a > b of alike data -/
def rLtD (K : PySem.W.Frag) : R2 := fun x y H Q => ∃ d e, Dp K H x d ∧ Dp K H y e ∧ PySem.W.alike d e = true ∧ d ≠ .none ∧ d.depth ≤ 60 ∧ Q (.bl (PySem.W.dataLt d e)) H
def rGtD (K : PySem.W.Frag) : R2 := fun x y H Q => ∃ d e, Dp K H x d ∧ Dp K H y e ∧ PySem.W.alike d e = true ∧ d ≠ .none ∧ d.depth ≤ 60 ∧ Q (.bl (PySem.W.dataLt e d)) H
theorem op_ltD {X : Cx} (hu : X.A.units + 64 < cLine) : OpR X (compareOp .Lt) (rLtD X.K) := by
  intro pins s σ H x y v u Q I rx ry h
  obtain ⟨d, e, hd, he, al, nn, dp, q⟩ := h
  obtain ⟨as, r1⟩ := Dp.reads I d x v hd rx
  obtain ⟨bs, r2⟩ := Dp.reads I e y u he ry
  exact PySem.W.lt_data r1 r2 al nn (by omega) ⟨.bl _, H, I, rfl, q⟩
theorem op_gtD {X : Cx} (hu : X.A.units + 64 < cLine) : OpR X (compareOp .Gt) (rGtD X.K) := by
  intro pins s σ H x y v u Q I rx ry h
  obtain ⟨d, e, hd, he, al, nn, dp, q⟩ := h
  obtain ⟨as, r1⟩ := Dp.reads I d x v hd rx
  obtain ⟨bs, r2⟩ := Dp.reads I e y u he ry
  exact PySem.W.gt_data r1 r2 al nn (by omega) ⟨.bl _, H, I, rfl, q⟩
end Own

set_option Elab.async false
set_option maxRecDepth 100000
/-! the law's call, from a promise that is kept where nothing is being shown -/
namespace Own
open PySem PySem.Spec PyProof.Rows L2

/-- the wish of the law: True -/
abbrev qTrue : VK := fun v _ => v = .bl true

theorem lawG {P : Program} {w : World} {K : PySem.W.Frag} {mg mb : Str → Option Value} {k : Nat} {fa a : Addr} {fd : FuncData}
    {x : Str} {sp : Sp} {s : Shared} {vs : List Value} {ns : List Int} (kk : K.In s.heap) (gm : s.heap.Ns mainGlobals mg)
    (gb : s.heap.Ns builtinsNs mb) (gbb : ∀ y : Str, y ≠ "__name__" → mb y = bootBuiltins y) (nolim : s.heap.NoLimit)
    (nog : s.gens = #[]) (at_ : s.heap.get? a = some { cls := .type "list", data := .seq vs.toArray }) (hin : IntsAre vs ns)
    (small : ns.length ≤ sizeLine) (room : Room k callerA)
    (F : ∀ g0 : Heap, K.In g0 → g0.Ns mainGlobals mg → GOk P w K mg g0 CX0 k fa fd [x] sp)
    (bd : ∀ (s : Shared) (u : Value), BindsTo s fd ⟨[u], []⟩ [(x, u)])
    (sp0 : ∀ H : Hp, Only H → SqL K H a (ns.map V.int) → sp [.ref a] H qTrue fun _ _ _ => False) :
    codeAny (model P w) callerA (.call (.ref fa) ⟨[.ref a], []⟩)
      (fun r s' => r = .ok (.ret (.bool true)) ∧ OldK s.heap s'.heap ∧ s'.os = s.os ∧ AllBare s'.gens) s := by
  have rv := vals_ints hin
  have nv : vs.length = ns.length := hin.length
  -- whatever the abstract heap says of the script, it says nothing else
  have main : ∀ H : Hp, (∀ b, H b ≠ none → b = a) → Only H → SqL K H a (ns.map V.int) → HOk P w H s.heap → (H a ≠ none → K.lookup a = none) →
      codeAny (model P w) callerA (.call (.ref fa) ⟨[.ref a], []⟩)
        (fun r s' => r = .ok (.ret (.bool true)) ∧ OldK s.heap s'.heap ∧ s'.os = s.os ∧ AllBare s'.gens) s := by
    intro H onlyA only sq hok notK
    have dictNone : ∀ {b : Addr} {o : Obj} {es : Array DictEntry} {n : Nat}, s.heap.get? b = some o → o.data = .dict es n → H b = none := by
      intro b o es n ho hd
      match hb : H b with
      | none => rfl
      | some u =>
        obtain rfl := onlyA b (by rw [hb]; exact fun z => nomatch z)
        rw [at_] at ho
        cases ho
        cases hd
    have ns0 : ∀ {b : Addr} {m : Str → Option Value}, s.heap.Ns b m → (hidT s.heap H).Ns b m := by
      rintro b m ⟨o, es, n, ho, hd, r⟩
      exact ⟨o, es, n, hidT_get ho (dictNone ho hd), hd, r⟩
    have k0 : K.In (hidT s.heap H) := by
      intro b o hb
      refine hidT_get (kk b o hb) ?_
      match hH : H b with
      | none => rfl
      | some u =>
        obtain rfl := onlyA b (by rw [hH]; exact fun z => nomatch z)
        rw [notK (by rw [hH]; exact fun z => nomatch z)] at hb
        cases hb
    have md : Mod K mg (hidT s.heap H) :=
      { kin := k0, glob := ns0 gm, blt := ⟨mb, ns0 gb, gbb⟩, nolimit := by obtain ⟨mc, n1, n2⟩ := nolim; exact ⟨mc, ns0 n1, n2⟩ }
    have e0 : Env0 P w K mg (hidT s.heap H) callerA [] s H :=
      { frames := rfl, mod := md, bs := fun b o e => of_hidT e, bsz := Nat.le_of_eq (hidT_size _ _), funs := trivial,
        frf := fun b hb => absurd (show b ∈ ([] : List Addr) from hb) (by simp), hok := hok, bare := .of_eq nog }
    have cc := (F _ k0 (ns0 gm)).run callerA [] s H ⟨[.ref a], []⟩ [.ref a] [.ref a] qTrue (fun _ _ _ => False) quiet_caller room e0
      (bd s (.ref a)) (.cons rfl .nil) (sp0 H only sq)
    refine codeAny_mono cc ?_
    intro r s' z
    match r, z with
    | .error e, z => exact z.elim
    | .ok .next, z => exact z.elim
    | .ok .brk, z => exact z.elim
    | .ok .cont, z => exact z.elim
    | .ok (.ret u), ⟨v, H', os, bare, un, hok', rr, q⟩ =>
      have q' : v = V.bl true := q
      subst q'
      obtain rfl : u = Value.bool true := rr
      refine ⟨rfl, OldK.of_keep ?_, os, bare⟩
      intro b o ho
      have nf : b ∉ frs ([] : List Env) := fun z => absurd (show b ∈ ([] : List Addr) from z) (by simp)
      match hb : H b with
      | none => exact un.keep b o ho hb nf (by simp)
      | some u =>
        rcases only b with z | ⟨ob, xs, z⟩
        · rw [hb] at z
          cases z
        · have z2 := un.frzs b ob _ z
          have p1 := (hok b _ z).1
          have p2 := (hok' b _ z2).1
          rw [ho] at p1
          cases p1
          exact p2
  match hk : K.lookup a with
  | some o =>
    have e := kk a o hk
    rw [at_] at e
    cases e
    refine main (fun _ => none) (fun b z => absurd rfl z) (fun b => .inl rfl) ?_ (fun b u z => ?_) fun z => absurd rfl z
    · refine .inr ⟨_, vs.toArray, _, hk, rfl, rfl, rfl, ?_, by simpa using rv⟩
      rw [List.size_toArray, nv]
      exact small
    · have z' : (none : Option HO) = some u := z
      cases z'
  | none =>
    let o1 : HO := .frz { cls := .type "list", data := .seq vs.toArray } (.lst (ns.map V.int))
    have ya : (fun b => if b = a then some o1 else none : Hp) a = some o1 := if_pos rfl
    refine main (fun b => if b = a then some o1 else none) (fun b z => ?_) (fun b => ?_) (.inl (.inr ⟨_, ya⟩)) (fun b u z => ?_) fun _ => hk
    · by_cases hb : b = a
      · exact hb
      · exact absurd (if_neg hb) z
    · by_cases hb : b = a
      · exact .inr ⟨_, _, if_pos hb⟩
      · exact .inl (if_neg hb)
    · by_cases hb : b = a
      · have z' := (if_pos hb).symm.trans z
        cases z'
        subst hb
        refine ⟨at_, ?_, vs, _, rv, at_⟩
        rw [List.length_map]
        exact small
      · have z' := (if_neg hb).symm.trans z
        cases z'

theorem walkG {l : PySem.W.OpenLaw} {n k : Nat} {q : Program} {loose : List Str} {XP : (Str → Option Value) → Heap → Prop}
    {YP : World → Heap → Prop} {d : DefRec} {K : Params → PySem.W.Frag} {sp : World → Sp} {x : Str}
    (hn : l.most = some n) (hn2 : n ≤ sizeLine) (hdf : d.params.defaults = []) (room : Room k callerA)
    (hY : ∀ (w : World) (h : Heap), YP w h → (K w.params).In h)
    (F : ∀ (w : World) (mg : Str → Option Value) (fa : Addr) (h : Heap), (K w.params).In h → h.Ns mainGlobals mg → mg d.name = some (.ref fa) →
      ∃ fd : FuncData, (∀ (s : Shared) (u : Value), BindsTo s fd ⟨[u], []⟩ [(x, u)]) ∧
        ∀ g0 : Heap, (K w.params).In g0 → g0.Ns mainGlobals mg → GOk l.prog w (K w.params) mg g0 CX0 k fa fd [x] (sp w))
    (sp0 : ∀ (w : World) (H : Hp) (a : Addr) (ns : List Int), ns.length ≤ n → Only H → SqL (K w.params) H a (ns.map V.int) →
      sp w [.ref a] H qTrue fun _ _ _ => False) :
    PySem.W.WalkO q loose XP YP l.row.toRowW d [] (fun f vs => PySem.call f vs) := by
  refine Att.attach_call hn hdf ?_
  intro w s0 s mg mb fa o pm cd doc a vs ns G Y ho hd hcd hmg hobj hin hlen hg
  have kk := hY w _ Y
  obtain ⟨fd, bd, FF⟩ := F w mg fa _ kk G.T.g hmg
  exact lawG kk G.T.g G.T.b G.T.builtins G.T.nolimit hg hobj hin (Nat.le_trans hlen hn2) room FF bd fun H hO hS => sp0 w H a ns hlen hO hS
end Own

set_option Elab.async false
set_option maxRecDepth 100000
/-! calls by name, readings step by step, heaps that grow -/
namespace Own
open PySem PySem.Spec PyProof.Rows L2

/-! ### a def that stands at a name -/
structure Cal (P : Program) (w : World) (K : PySem.W.Frag) (mg : Str → Option Value) (g0 : Heap) (x : Str) (k : Nat) (ps : List Str) (sp : Sp) : Prop where
  ex : ∃ (f : Addr) (fd : FuncData), GOk P w K mg g0 CX0 k f fd ps sp ∧ Binds K fd ps [] ∧ mg x = some (.ref f) ∧ PySem.W.keepIn K (.ref f) = true
/-- .. by keywords: n values, then those of the names ks -/
structure CalK (P : Program) (w : World) (K : PySem.W.Frag) (mg : Str → Option Value) (g0 : Heap) (x : Str) (k : Nat) (ps : List Str) (n : Nat) (ks : List Str) (gV : List V → List V → List V) (sp : Sp) : Prop where
  ex : ∃ (f : Addr) (fd : FuncData) (g : List Value → List Value → List Value), GOk P w K mg g0 CX0 k f fd ps sp ∧ KBn K fd ps n ks g gV ∧ mg x = some (.ref f) ∧ PySem.W.keepIn K (.ref f) = true
section
variable {X : Cx} {k n : Nat} {ps ks : List Str} {sp : Sp} {x : Str} {p pos : Pos} {e : Expr} {es : List Expr} {kws : List Keyword} {t tk : TA} {gV : List V → List V → List V}
theorem pe_c (C : Cal X.prog X.w X.K X.mg X.base x k ps sp) (qt : Quiet X.A) (room : Room k X.A) (pa : PA X (e :: es) t) (gl : Gl X x := by rfl)
    (nodbg : (x == ("__debug__" : Str)) = false := by decide)
    (st : starEach (e :: es) X.env = (false, eval e X.env) :: starEach es X.env := by rfl)
    (pl : (backTo pos (starEach es X.env)).any (·.1) = false := by rfl) :
    PE X (.Call (.Name x p) (e :: es) [] pos) (tCall sp [] E0 t) := by
  obtain ⟨f, fd, G, bd, at_, kp⟩ := C.ex
  exact pe_callG qt G room gl at_ kp bd .nil pass0 pa nodbg st pl
theorem goRunK {pins : List (Addr × Obj)} {σ : L2.St} {H : Hp} {s : Shared} {Q : VK} {us ws : List Value} {vs zs : List V}
    (C : CalK X.prog X.w X.K X.mg X.base x k ps n ks gV sp) (qt : Quiet X.A) (room : Room k X.A) (I : Inv X pins σ H s) (rv : Vals vs us) (rz : Vals zs ws)
    (l1 : vs.length = n) (l2 : zs.length = ks.length) (q : sp (gV vs zs) H Q E0) (f : Addr) (at_ : X.mg x = some (.ref f)) :
    wpAny (model X.prog X.w) X.A (call (.ref f) us (ks.zip ws)) (EP X pins σ Q) X.xe s := by
  obtain ⟨f', fd, g, G, bd, at', kp⟩ := C.ex
  rw [at_] at at'
  cases at'
  have rr := bd.rel rv rz
  have cc := G.run X.A X.stack s H ⟨us, ks.zip ws⟩ (g us ws) (gV vs zs) Q E0 qt room I.env0
    (bd.to s us ws I.kIn (rv.length.symm.trans l1) (rz.length.symm.trans l2)) rr q
  refine wpAny_call (codeAny_mono cc ?_)
  intro r s' z
  match r, z with
  | .error e, z => exact z.elim
  | .ok (.ret u), z => exact I.after z
  | .ok .next, z => exact z.elim
  | .ok .brk, z => exact z.elim
  | .ok .cont, z => exact z.elim
def tCK (n m : Nat) (sp : Sp) (gV : List V → List V → List V) (t tk : TA) : TE := fun σ H Q =>
  t σ H fun vs H1 => tk σ H1 fun zs H2 => vs.length = n ∧ zs.length = m ∧ sp (gV vs zs) H2 Q E0
/-- f(k = v, ..) -/
theorem pe_ck0 (C : CalK X.prog X.w X.K X.mg X.base x k ps 0 ks gV sp) (qt : Quiet X.A) (room : Room k X.A) (pk : PK X kws tk) (gl : Gl X x := by rfl)
    (all : (backToKw pos (keywordEach kws X.env)).all (·.1.isSome) = true := by rfl) (nm : (backToKw pos (keywordEach kws X.env)).filterMap (·.1) = ks := by rfl)
    (nodbg : (x == ("__debug__" : Str)) = false := by decide)
    (pl : ((backTo pos (starEach [] X.env)).any (·.1) || (backToKw pos (keywordEach kws X.env)).any (·.1.isNone)) = false := by rfl) :
    PE X (.Call (.Name x p) [] kws pos) (tCK 0 ks.length sp gV tNil tk) := by
  obtain ⟨f, fd, g, G, bd, at_, kp⟩ := C.ex
  constructor
  intro pins s σ H Q I q
  refine wpAny_Call_Name_kw (ld_glob I gl at_ ?_ nodbg)
  refine PySem.W.callWith_KW0 (h₀ := X.base) I.ok.mod.kin kp all ?_ pl
  refine thn (pk.run pos pins s σ H _ I q) fun ws s2 ⟨zs, H2, I2, rz, l1, l2, q2⟩ => ⟨I2.kIn, ?_⟩
  rw [nm]
  exact goRunK C qt room I2 .nil rz rfl l2 q2 f at_
/-- f(e, .., k = v, ..) -/
theorem pe_ck (C : CalK X.prog X.w X.K X.mg X.base x k ps n ks gV sp) (qt : Quiet X.A) (room : Room k X.A) (pa : PA X (e :: es) t) (pk : PK X kws tk) (gl : Gl X x := by rfl)
    (all : (backToKw pos (keywordEach kws X.env)).all (·.1.isSome) = true := by rfl) (nm : (backToKw pos (keywordEach kws X.env)).filterMap (·.1) = ks := by rfl)
    (nodbg : (x == ("__debug__" : Str)) = false := by decide) (st : starEach (e :: es) X.env = (false, eval e X.env) :: starEach es X.env := by rfl)
    (pl : ((backTo pos (starEach (e :: es) X.env)).any (·.1) || (backToKw pos (keywordEach kws X.env)).any (·.1.isNone)) = false := by rfl) :
    PE X (.Call (.Name x p) (e :: es) kws pos) (tCK n ks.length sp gV t tk) := by
  obtain ⟨f, fd, g, G, bd, at_, kp⟩ := C.ex
  constructor
  intro pins s σ H Q I q
  refine wpAny_Call_Name_kw (ld_glob I gl at_ ?_ nodbg)
  refine PySem.W.callWith_KW (h₀ := X.base) I.ok.mod.kin kp all (thn (pa.run pos pins s σ H _ I q) fun us s1 ⟨vs, H1, I1, rv, q1⟩ => ?_) pl st
  refine thn (pk.run pos pins s1 σ H1 _ I1 q1) fun ws s2 ⟨zs, H2, I2, rz, l1, l2, q2⟩ => ⟨I2.kIn, ?_⟩
  rw [nm]
  exact goRunK C qt room I2 rv rz l1 l2 q2 f at_
end

/-! ### heaps that grow; objects at M may change -/
def Ext (M : Addr → Prop) (H H' : Hp) : Prop := (∀ a xs, H a = some (.tup xs) → H' a = some (.tup xs)) ∧ ∀ a o, ¬ M a → H a = some o → H' a = some o
theorem Same.ext {M : Addr → Prop} {H H' : Hp} (s : Same H H') : Ext M H H' := ⟨fun a _ h => s a _ h, fun a o _ h => s a o h⟩
theorem Ext.refl {M : Addr → Prop} (H : Hp) : Ext M H H := ⟨fun _ _ h => h, fun _ _ _ h => h⟩
theorem Ext.trans {M : Addr → Prop} {H H1 H2 : Hp} (a : Ext M H H1) (b : Ext M H1 H2) : Ext M H H2 :=
  ⟨fun x xs h => b.1 x xs (a.1 x xs h), fun x o n h => b.2 x o n (a.2 x o n h)⟩
theorem Ext.mono {M N : Addr → Prop} {H H' : Hp} (e : Ext M H H') (h : ∀ a, M a → N a) : Ext N H H' := ⟨e.1, fun a o n => e.2 a o fun z => n (h a z)⟩
theorem Ext.same {H H' : Hp} (e : Ext (fun _ => False) H H') : Same H H' := fun a o h => e.2 a o (fun z => z) h
theorem Ext.tup {M : Addr → Prop} {H H' : Hp} (e : Ext M H H') {a : Addr} {xs : List V} (h : H a = some (.tup xs)) : H' a = some (.tup xs) := e.1 a xs h
theorem Same.upd {H : Hp} {p : Addr} {o : HO} (h : H p = none) : Same H (upd H p o) := fun a u e => by
  rw [upd_ne (ne_of_none e h)]
  exact e
theorem ext_new {M : Addr → Prop} {H : Hp} {p : Addr} {o : HO} (h : H p = none) : Ext M H (L2.upd H p o) := Same.ext (Same.upd h)
theorem Ext.upd {M : Addr → Prop} {H : Hp} {p : Addr} {o u : HO} (h : H p = some u) (m : M p) (nt : ∀ xs, u ≠ .tup xs) : Ext M H (upd H p o) := by
  refine ⟨fun a xs e => ?_, fun a v n e => ?_⟩
  · rw [upd_ne fun z => ?_]
    · exact e
    · subst z
      rw [h] at e
      cases e
      exact nt _ rfl
  · rw [upd_ne fun z => ?_]
    · exact e
    · subst z
      exact n m
theorem SqT.ext {M : Addr → Prop} {K : PySem.W.Frag} {H H' : Hp} (e : Ext M H H') {a : Addr} {xs : List V} (h : SqT K H a xs) (m : ¬ M a) : SqT K H' a xs := by
  rcases h with (h | ⟨o, h⟩) | h
  · exact .inl (.inl (e.1 _ _ h))
  · exact .inl (.inr ⟨o, e.2 _ _ m h⟩)
  · exact .inr h
theorem SqL.ext {M : Addr → Prop} {K : PySem.W.Frag} {H H' : Hp} (e : Ext M H H') {a : Addr} {xs : List V} (h : SqL K H a xs) (m : ¬ M a) : SqL K H' a xs := by
  rcases h with (h | ⟨o, h⟩) | h
  · exact .inl (.inl (e.2 _ _ m h))
  · exact .inl (.inr ⟨o, e.2 _ _ m h⟩)
  · exact .inr h

/-! ### the readings, one step at a time -/
section
variable {t u : TS} {D : Ends} {σ : L2.St} {H : Hp} {te ta tb : TE} {i : Nat} {Q : VK} {v : V} {tt tu : TT} {QB : Bool → Hp → Prop} {r : R2} {tl tr : TA} {QA : List V → Hp → Prop}
theorem k_seq (h : t { D with nx := u D } σ H) : tSeq t u D σ H := h
theorem k_asg {g : TG} (h : te σ H fun x H1 => g x σ H1 D.nx) : tAsg te g D σ H := h
theorem k_gN {QS : L2.St → Hp → Prop} (h : QS (σ.set i (some v)) H) : gName i v σ H QS := h
theorem k_gS {QS : L2.St → Hp → Prop} {ts : TSet} (h : ta σ H fun o H1 => tb σ H1 fun x H2 => ts o x v H2 fun H3 => QS σ H3) : gSub ta tb ts v σ H QS := h
theorem k_gNil {QS : L2.St → Hp → Prop} (h : QS σ H) : gNil [] σ H QS := ⟨rfl, h⟩
theorem k_gCons {QS : L2.St → Hp → Prop} {g : TG} {gs : TGs} {vs : List V} (h : g v σ H fun σ' H' => gs vs σ' H' QS) : gCons g gs (v :: vs) σ H QS := ⟨v, vs, rfl, h⟩
theorem k_gTup {QS : L2.St → Hp → Prop} {K : PySem.W.Frag} {n : Nat} {gs : TGs} {a : Addr} {xs : List V} (e : SqT K H a xs) (l : xs.length = n) (h : gs xs σ H QS) : gTup K n gs (.ref a) σ H QS := ⟨a, xs, rfl, e, l, h⟩
theorem k_ret (h : te σ H D.rt) : tRet te D σ H := h
theorem k_drop (h : te σ H fun _ H' => D.nx σ H') : tDrop te D σ H := h
theorem k_next (h : D.nx σ H) : tNext D σ H := h
theorem k_ifS (h : tt σ H fun b H' => if b = true then t D σ H' else u D σ H') : tIfS tt t u D σ H := h
theorem k_var (e : σ[i]? = some (some v)) (h : Q v H) : tVar i σ H Q := ⟨v, e, h⟩
theorem k_c (h : Q v H) : tC v σ H Q := h
theorem k_op (h : ta σ H fun x H1 => tb σ H1 fun y H2 => r x y H2 Q) : tOp r ta tb σ H Q := h
theorem k_un {ru : V → Hp → VK → Prop} (h : ta σ H fun x H1 => ru x H1 Q) : tUn ru ta σ H Q := h
theorem k_test (h : te σ H fun x H' => ∃ k, x = .bl k ∧ QB k H') : tTest te σ H QB := h
theorem k_B (h : te σ H fun x H' => ∃ k, x = .bl k ∧ QB k H') : tB te σ H QB := h
theorem k_and (h : tt σ H fun c H1 => if c = true then tu σ H1 QB else QB false H1) : tAnd tt tu σ H QB := h
theorem k_or (h : tt σ H fun c H1 => if c = true then QB true H1 else tu σ H1 QB) : tOr tt tu σ H QB := h
theorem k_not (h : tt σ H fun c H1 => QB (!c) H1) : tNot tt σ H QB := h
theorem k_andV (h : ta σ H fun x H1 => ∃ c, x = .bl c ∧ if c = true then tb σ H1 Q else Q (.bl false) H1) : tAndV ta tb σ H Q := h
theorem k_orV (h : ta σ H fun x H1 => ∃ c, x = .bl c ∧ if c = true then Q (.bl true) H1 else tb σ H1 Q) : tOrV ta tb σ H Q := h
theorem k_notV (h : ta σ H fun x H1 => ∃ c, x = .bl c ∧ Q (.bl (!c)) H1) : tNotV ta σ H Q := h
theorem k_if (h : tt σ H fun c H1 => if c = true then ta σ H1 Q else tb σ H1 Q) : tIf tt ta tb σ H Q := h
theorem k_nil (h : QA [] H) : tNil σ H QA := h
theorem k_cons (h : te σ H fun x H1 => tl σ H1 fun xs H2 => QA (x :: xs) H2) : tCons te tl σ H QA := h
theorem k_tup (h : tl σ H fun xs H1 => xs.length ≤ sizeLine ∧ ∀ p, H1 p = none → Q (.ref p) (upd H1 p (.tup xs))) : tTup tl σ H Q := h
theorem k_lst (h : tl σ H fun xs H1 => xs.length ≤ sizeLine ∧ ∀ p, H1 p = none → Q (.ref p) (upd H1 p (.lst xs))) : tLst tl σ H Q := h
theorem k_call {sp : Sp} {dvs : List V} {E : XK} (h : tl σ H fun vs H1 => sp (vs ++ dvs) H1 Q E) : tCall sp dvs E tl σ H Q := h
theorem k_cb {rc : List V → Hp → VK → Prop} (h : tl σ H fun vs H1 => rc vs H1 Q) : tCB rc tl σ H Q := h
theorem k_ck {n m : Nat} {sp : Sp} {gV : List V → List V → List V} {tk : TA} (h : tl σ H fun vs H1 => tk σ H1 fun zs H2 => vs.length = n ∧ zs.length = m ∧ sp (gV vs zs) H2 Q E0) : tCK n m sp gV tl tk σ H Q := h
theorem k_par {j : Nat} (h : tl σ H fun vs H1 => ∃ v w, vs = [v, w] ∧ D.nx ((σ.set i (some v)).set j (some w)) H1) : tPar i j tl D σ H := h
theorem k_par1 {j : Nat} {v w : V} (h : D.nx ((σ.set i (some v)).set j (some w)) H) : ∃ v' w', [v, w] = [v', w'] ∧ D.nx ((σ.set i (some v')).set j (some w')) H := ⟨v, w, rfl, h⟩
theorem k_tr {b : Bool} {R : Bool → Prop} (h : R b) : ∃ k, V.bl b = .bl k ∧ R k := ⟨b, rfl, h⟩
theorem k_ite {b : Bool} {A B : Prop} (h1 : b = true → A) (h2 : b = false → B) : if b = true then A else B := by
  cases b with
  | true => exact iteT (h1 rfl)
  | false => exact iteF (h2 rfl)
theorem k_iteD {c : Prop} [Decidable c] {A B : Prop} (h1 : c → A) (h2 : ¬ c → B) : if decide c = true then A else B :=
  k_ite (fun z => h1 (of_decide_eq_true z)) fun z => h2 (of_decide_eq_false z)
theorem k_for {wi : TI} {g : TG} {tb : TS} (h : wi σ H fun J H1 => ∃ W : Nat → Nat → L2.St → Hp → Prop, (∃ m, W 0 m σ H1) ∧ ∀ i m σ H, W i m σ H →
    (J.stop i H ∧ D.nx σ H) ∨ (J.go i H ∧ ∃ N : L2.St → Hp → Prop, (∀ σ' H', N σ' H' → ∃ m', m' < m ∧ W (i + 1) m' σ' H') ∧ ∀ x H', J.yld i H x H' → g x σ H' fun σ2 H2 => tb { D with nx := N, ct := N, bk := D.nx } σ2 H2)) : tFor wi g tb D σ H := h
theorem k_iL {K : PySem.W.Frag} {R : It → Hp → Prop} (h : te σ H fun x H1 => ∃ a, x = .ref a ∧ (∃ xs, SqL K H1 a xs) ∧ R (Itl K a) H1) : iList K te σ H R := h
theorem k_iT {K : PySem.W.Frag} {R : It → Hp → Prop} (h : te σ H fun x H1 => ∃ a, x = .ref a ∧ (∃ xs, SqT K H1 a xs) ∧ R (Itt K a) H1) : iTup K te σ H R := h
theorem k_iR1 {R : It → Hp → Prop} (h : tl σ H fun vs H1 => ∃ j, vs = [.int j] ∧ -(2 ^ 62) ≤ j ∧ j < 2 ^ 62 ∧ R (Itr 0 j.toNat) H1) : iRng1 tl σ H R := h
theorem k_iR1i {R : It → Hp → Prop} {j : Int} (l : -(2 ^ 62) ≤ j ∧ j < 2 ^ 62) (h : R (Itr 0 j.toNat) H) : ∃ i, [V.int j] = [.int i] ∧ -(2 ^ 62) ≤ i ∧ i < 2 ^ 62 ∧ R (Itr 0 i.toNat) H := ⟨j, rfl, l.1, l.2, h⟩
theorem k_ble {n m : Nat} (h : Nat.ble n m = true) : n ≤ m := Nat.le_of_ble_eq_true h
theorem k_sz {n : Nat} (h : Nat.ble n 100000 = true) : n ≤ sizeLine := Nat.le_trans (Nat.le_of_ble_eq_true h) (by decide)
theorem k_rI0 {g : Int → Int → V} {i j : Int} (h : Q (g i j) H) : rI0 g (.int i) (.int j) H Q := ⟨i, j, rfl, rfl, h⟩
theorem k_rI {C : Int → Int → Prop} {g : Int → Int → V} {i j : Int} (c : C i j) (h : Q (g i j) H) : rI C g (.int i) (.int j) H Q := ⟨i, j, rfl, rfl, c, h⟩
theorem k_rU {g : Int → V} {i : Int} (h : Q (g i) H) : rU g (.int i) H Q := ⟨i, rfl, h⟩
theorem k_eq {x y : V} (s : scal x y = true) (h : Q (.bl (decide (x = y))) H) : rEq x y H Q := ⟨s, h⟩
theorem k_ne {x y : V} (s : scal x y = true) (h : Q (.bl (!decide (x = y))) H) : rNe x y H Q := ⟨s, h⟩
variable {K : PySem.W.Frag} {a : Addr} {xs : List V}
theorem k_setL {QH : Hp → Prop} {n : Int} {j : Nat} (e : H a = some (.lst xs)) (f : ixN xs.length n = some j) (h : QH (upd H a (.lst (xs.set j v)))) : rSetL (.ref a) (.int n) v H QH := ⟨a, xs, n, j, rfl, rfl, e, f, h⟩
theorem k_bm0 {T : String} {rm : V → List V → Hp → VK → Prop} (h : te σ H fun x H1 => tyV K T x H1 ∧ rm x [] H1 Q) : tBM0 K T rm te σ H Q := h
theorem k_bm {T : String} {rm : V → List V → Hp → VK → Prop} (h : te σ H fun x H1 => tyV K T x H1 ∧ tl σ H1 fun xs H2 => rm x xs H2 Q) : tBM K T rm te tl σ H Q := h
theorem k_tyL (e : H a = some (.lst xs)) : tyV K "list" (.ref a) H := .inl ⟨rfl, _, SqL.of e⟩
theorem k_pop (e : H a = some (.lst xs)) (l : xs[xs.length - 1]? = some v) (h : Q v (upd H a (.lst xs.dropLast))) : rPop (.ref a) [] H Q := ⟨a, xs, v, rfl, rfl, e, l, h⟩
theorem k_app (e : H a = some (.lst xs)) (l : xs.length < sizeLine) (h : Q .non (upd H a (.lst (xs ++ [v])))) : rAppend (.ref a) [v] H Q := ⟨a, xs, v, rfl, rfl, e, l, h⟩
theorem k_ixL {n : Int} (e : SqL K H a xs) (f : atI xs n = some v) (h : Q v H) : rIxL K (.ref a) (.int n) H Q := ⟨a, xs, n, v, rfl, rfl, e, f, h⟩
theorem k_ixT {n : Int} (e : SqT K H a xs) (f : atI xs n = some v) (h : Q v H) : rIxT K (.ref a) (.int n) H Q := ⟨a, xs, n, v, rfl, rfl, e, f, h⟩
end
section
variable {X : Cx} {K : PySem.W.Frag} {H : Hp} {Q : VK} {a : Addr} {xs : List V} {v : V}
def rLen (K : PySem.W.Frag) : List V → Hp → VK → Prop := fun xs H Q => ∃ p ys, xs = [.ref p] ∧ (SqL K H p ys ∨ SqT K H p ys) ∧ Q (.int ys.length) H
theorem c_len : CallR X (.builtin "len") (rLen X.K) := call_len_seq
theorem k_lenL (e : SqL K H a xs) (h : Q (.int xs.length) H) : rLen K [.ref a] H Q := ⟨a, xs, rfl, .inl e, h⟩
theorem k_lenT (e : SqT K H a xs) (h : Q (.int xs.length) H) : rLen K [.ref a] H Q := ⟨a, xs, rfl, .inr e, h⟩
def rList (K : PySem.W.Frag) : List V → Hp → VK → Prop := fun xs H Q => ∃ p ys, xs = [.ref p] ∧ (SqL K H p ys ∨ SqT K H p ys) ∧ ∀ l, H l = none → Q (.ref l) (upd H l (.lst ys))
theorem c_list : CallR X (.type "list") (rList X.K) := call_list_of
theorem k_listL (e : SqL K H a xs) (h : ∀ l, H l = none → Q (.ref l) (upd H l (.lst xs))) : rList K [.ref a] H Q := ⟨a, xs, rfl, .inl e, h⟩
theorem k_listT (e : SqT K H a xs) (h : ∀ l, H l = none → Q (.ref l) (upd H l (.lst xs))) : rList K [.ref a] H Q := ⟨a, xs, rfl, .inr e, h⟩
def rMax : List V → Hp → VK → Prop := fun xs H Q => ∃ i j, xs = [.int i, .int j] ∧ Q (.int (if j > i then j else i)) H
theorem c_max (hc : X.calm = true) : CallR X (.builtin "max") rMax := call_max2 hc
theorem k_max {i j : Int} (h : Q (.int (if j > i then j else i)) H) : rMax [.int i, .int j] H Q := ⟨i, j, rfl, h⟩
theorem k_ixqL {n : Int} (e : SqL K H a xs) (f : atI xs n = some v) (h : Q v H) : rIx K (.ref a) (.int n) H Q := .inl ⟨a, xs, n, v, rfl, rfl, e, f, h⟩
theorem k_ixqT {n : Int} (e : SqT K H a xs) (f : atI xs n = some v) (h : Q v H) : rIx K (.ref a) (.int n) H Q := .inr (.inl ⟨a, xs, n, v, rfl, rfl, e, f, h⟩)
theorem k_slL {lo hi : Option Int} (e : SqL K H a xs) (h : ∀ p, H p = none → Q (.ref p) (upd H p (.lst (cutV xs lo hi)))) : rSlL K (.ref a) lo hi H Q := ⟨a, xs, rfl, e, h⟩
theorem k_ltT {b : Addr} {ns ms : List Int} (e : SqT K H a (ns.map V.int)) (f : SqT K H b (ms.map V.int)) (h : Q (.bl (HT.lexLt ns ms)) H) : rLtT K (.ref a) (.ref b) H Q := ⟨a, b, ns, ms, rfl, rfl, e, f, h⟩
def rIsBb : R2 := rIsB
theorem k_isB {x y : Bool} (h : Q (.bl (decide (x = y))) H) : rIsB (.bl x) (.bl y) H Q := ⟨x, y, rfl, rfl, h⟩
theorem k_isN {x : V} {r : V → V → Hp → VK → Prop} (h : r x .non H Q) : r x .non H Q := h
variable {σ : L2.St} {te : TE} {tl th : TO} {tl' : TO} {QO : Option Int → Hp → Prop}
theorem k_sl {r : V → Option Int → Option Int → Hp → VK → Prop} (h : te σ H fun x H1 => tl σ H1 fun l H2 => th σ H2 fun u H3 => r x l u H3 Q) : tSl r te tl th σ H Q := h
theorem k_noP (h : QO none H) : tNoPart σ H QO := h
theorem k_part (h : te σ H fun x H1 => ∃ i, x = .int i ∧ QO (some i) H1) : tPart te σ H QO := h
theorem k_partI {R : Int → Prop} {i : Int} (h : R i) : ∃ j, V.int i = .int j ∧ R j := ⟨i, rfl, h⟩
theorem k_revL (h : te σ H fun x H1 => ∃ a xs, x = .ref a ∧ SqL K H1 a xs ∧ ∀ p, H1 p = none → Q (.ref p) (upd H1 p (.lst xs.reverse))) : tRevL K te σ H Q := h
/-- a > b, tuples of ints -/
def rGtT (K : PySem.W.Frag) : R2 := fun x y H Q => ∃ a b ns ms, x = .ref a ∧ y = .ref b ∧ SqT K H a (ns.map V.int) ∧ SqT K H b (ms.map V.int) ∧ Q (.bl (HT.lexLt ms ns)) H
theorem k_gtT {b : Addr} {ns ms : List Int} (e : SqT K H a (ns.map V.int)) (f : SqT K H b (ms.map V.int)) (h : Q (.bl (HT.lexLt ms ns)) H) : rGtT K (.ref a) (.ref b) H Q := ⟨a, b, ns, ms, rfl, rfl, e, f, h⟩
theorem dpAll_ints {K : PySem.W.Frag} {H : Hp} : ∀ xs : List Int, DpAll K H (xs.map V.int) (xs.map PyData.int)
  | [] => .nil
  | x :: xs => .cons (.int x) (dpAll_ints xs)
theorem alike_ints : ∀ xs ys : List Int, PySem.W.alikeAll (xs.map PyData.int) (ys.map PyData.int) = true
  | [], ys => by cases ys <;> rfl
  | _ :: _, [] => rfl
  | x :: xs, y :: ys => by
    show (true && _) = true
    rw [alike_ints xs ys]
    rfl
theorem depth_ints : ∀ xs : List Int, PyData.depthAll (xs.map PyData.int) = 0
  | [] => rfl
  | x :: xs => by
    show max 0 (PyData.depthAll (xs.map PyData.int)) = 0
    rw [depth_ints xs]
    rfl
theorem lt_ints : ∀ xs ys : List Int, PySem.W.dataLt (.tuple (xs.map PyData.int)) (.tuple (ys.map PyData.int)) = HT.lexLt xs ys
  | [], [] => by decide
  | [], y :: ys => by
    show PyProof.Rows.lexLt itemOrd (PySem.W.keyToksAll []) (PySem.W.keyToksAll (PyData.int y :: _)) = true
    rw [PySem.W.toks_all_cons]
    exact (lex_diff (O := itemOrd) (by decide)).trans (by decide)
  | x :: xs, [] => by
    show PyProof.Rows.lexLt itemOrd (PySem.W.keyToksAll (PyData.int x :: _)) (PySem.W.keyToksAll []) = false
    rw [PySem.W.toks_all_cons]
    exact (lex_diff (O := itemOrd) (by decide)).trans (by decide)
  | x :: xs, y :: ys => by
    show PyProof.Rows.lexLt itemOrd (PySem.W.keyToksAll (PyData.int x :: _)) (PySem.W.keyToksAll (PyData.int y :: _)) = (if x = y then HT.lexLt xs ys else decide (x < y))
    by_cases e : x = y
    · subst e
      rw [if_pos rfl, PySem.W.dataLt_all_yes rfl (by simp [PyData.eqv])]
      exact lt_ints xs ys
    · rw [if_neg e, PySem.W.dataLt_all_no rfl (by simpa [PyData.eqv] using e)]
      exact PySem.W.dataLt_int x y
theorem op_gtT {X : Cx} (hu : X.A.units + 64 < cLine) : OpR X (compareOp .Gt) (rGtT X.K) := by
  intro pins s σ H x y v u Q I rx ry h
  obtain ⟨a, b, ns, ms, rfl, rfl, ha, hb, q⟩ := h
  obtain ⟨as, r1⟩ := Dp.reads I (.tuple (ns.map PyData.int)) (.ref a) v (.tup ha (dpAll_ints ns)) rx
  obtain ⟨bs, r2⟩ := Dp.reads I (.tuple (ms.map PyData.int)) (.ref b) u (.tup hb (dpAll_ints ms)) ry
  refine PySem.W.gt_data r1 r2 (alike_ints ns ms) (fun z => by cases z) ?_ ⟨.bl _, H, I, rfl, ?_⟩
  · show X.A.units + min (PyData.depthAll (ns.map PyData.int) + 1) _ < cLine
    rw [depth_ints]
    omega
  · rw [lt_ints]
    exact q
end
theorem atI_head {α : Type} {x : α} {xs : List α} : atI (x :: xs) 0 = some x := atI_nat (j := 0) (xs := x :: xs) rfl
/-! what is known is known behind a step -/
theorem lk_new {H : Hp} {a p : Addr} {o u : HO} (h : H a = some u) (n : H p = none) : upd H p o a = some u := (upd_ne (ne_of_none h n)).trans h
theorem lk_ext {M : Addr → Prop} {H H' : Hp} {a : Addr} {xs : List V} (e : Ext M H H') (h : H a = some (.tup xs)) : H' a = some (.tup xs) := e.1 a xs h
theorem lk_same {H H' : Hp} {a : Addr} {o : HO} (e : Same H H') (h : H a = some o) : H' a = some o := e a o h
end Own

set_option Elab.async false
set_option maxRecDepth 100000
/-! instances of own classes: in, len, methods by keywords, errors with fields -/
namespace Own
open PySem PySem.Spec PyProof.Rows L2

theorem k_yes {σ : L2.St} {H : Hp} {A B : Hp → Prop} (h : A H) : tYes σ H (fun b H' => if b = true then A H' else B H') := by
  show (if true = true then A H else B H)
  rw [if_pos rfl]
  exact h
theorem k_szL {n : Nat} (h : n < 100000) : n < sizeLine := by
  rw [sizeLine_eq]
  omega
section
variable {X : Cx} {Z : CXT} {k : Nat} {C f : Addr} {sp : Sp} {E : XK}
/-- x in o, o an instance whose class has its own __contains__ -/
theorem own_in {pins : List (Addr × Obj)} {σ : L2.St} {H : Hp} {s : Shared} {a dx : Addr} {fs : List (Str × V)} {x : V} {u : Value} {Q : Bool → Hp → Prop}
    (hs : PySem.W.findIn X.K (.ref C) "__contains__" = some (some (.ref f))) (hf : PySem.W.typeIn X.K (.ref f) = some (.type "function"))
    (F : FnR X.prog X.w X.K X.mg X.base Z k f sp) (room : Room k X.A) (px : Passes Z X E) (I : Inv X pins σ H s) (ea : H a = some (.ins C dx fs)) (rx : RelV x u)
    (h : sp [.ref a, x] H (fun v H' => ∃ b, v = .bl b ∧ Q b H') E) :
    wpAny (model X.prog X.w) X.A (contains (.ref a) u) (TP X pins σ Q) X.xe s := by
  obtain ⟨mA, O, _, _, _, _⟩ := ins_get I.hok ea
  obtain ⟨od, J, _⟩ := O.look
  unfold contains
  refine wpAny_holding ?_
  rw [stdlibNamesSay?_ref]
  dsimp only
  refine wpAny_bind (m := specialOf (.ref a) "__contains__") ?_
  unfold specialOf
  refine wpAny_bind (J.type.here ((PySem.W.looks_findIn I.kIn hs).here ?_))
  rw [show ((some (Value.ref f) : Option Value) == some Value.none) = false from rfl]
  rw [if_neg Bool.false_ne_true]
  refine wpAny_bind ?_
  unfold callSpecialUnlessNone? specialOf
  refine wpAny_bind (wpAny_bind (J.type.here ((PySem.W.looks_findIn I.kIn hs).here ?_)))
  dsimp only
  refine wpAny_holding (wpAny_bind ((PySem.W.bind_fn I.kIn _ hf).here ?_))
  rw [show ((Value.ref f) == Value.none) = false from rfl]
  rw [if_neg Bool.false_ne_true]
  refine wpAny_bind (wpAny_mono (wpAny_call (run_fnR (us := [.ref a, u]) (vs := [.ref a, x]) F room px I (.cons rfl (.cons rx .nil)) h)) (fun r s' z => ?_) fun _ _ z => z)
  obtain ⟨v, H', I', rv, b, rfl, q⟩ := z
  cases rv
  exact wpAny_pure (wpAny_truthy_bool ⟨H', I', q⟩)
def rInO (C : Addr) (sp : Sp) (E : XK) (g : Bool → Bool) : R2 := fun x y H Q => ∃ a dx fs, y = .ref a ∧ H a = some (.ins C dx fs) ∧ sp [.ref a, x] H (fun v H' => ∃ b, v = .bl b ∧ Q (.bl (g b)) H') E
theorem op_inO (hs : PySem.W.findIn X.K (.ref C) "__contains__" = some (some (.ref f))) (hf : PySem.W.typeIn X.K (.ref f) = some (.type "function"))
    (F : FnR X.prog X.w X.K X.mg X.base Z k f sp) (room : Room k X.A) (px : Passes Z X E) : OpR X (compareOp .In) (rInO C sp E fun b => b) := by
  intro pins s σ H x y v u Q I rx ry h
  obtain ⟨a, dx, fs, rfl, ea, q⟩ := h
  obtain rfl : u = Value.ref a := ry
  refine wpAny_bind (wpAny_mono (own_in (Q := fun b H' => Q (.bl b) H') hs hf F room px I ea rx q) (fun b s' z => ?_) fun _ _ z => z)
  obtain ⟨H', I', q'⟩ := z
  exact wpAny_pure ⟨.bl b, H', I', rfl, q'⟩
theorem op_notInO (hs : PySem.W.findIn X.K (.ref C) "__contains__" = some (some (.ref f))) (hf : PySem.W.typeIn X.K (.ref f) = some (.type "function"))
    (F : FnR X.prog X.w X.K X.mg X.base Z k f sp) (room : Room k X.A) (px : Passes Z X E) : OpR X (compareOp .NotIn) (rInO C sp E fun b => !b) := by
  intro pins s σ H x y v u Q I rx ry h
  obtain ⟨a, dx, fs, rfl, ea, q⟩ := h
  obtain rfl : u = Value.ref a := ry
  refine wpAny_bind (wpAny_mono (own_in (Q := fun b H' => Q (.bl (!b)) H') hs hf F room px I ea rx q) (fun b s' z => ?_) fun _ _ z => z)
  obtain ⟨H', I', q'⟩ := z
  exact wpAny_pure ⟨.bl (!b), H', I', rfl, q'⟩

/-- a callee, run below the running body -/
theorem atRun {pins : List (Addr × Obj)} {σ : L2.St} {H : Hp} {s : Shared} {B : Around} {Q : VK} {us : List Value} {vs : List V} (F : FnR X.prog X.w X.K X.mg X.base Z k f sp) (room : Room k B)
    (e0 : Env0 X.prog X.w X.K X.mg X.base B X.stack s H) (px : Passes Z X E) (I : Inv X pins σ H s) (rv : Vals vs us) (q : sp vs H Q E) :
    wpAny (model X.prog X.w) B (call (.ref f) us) (EP X pins σ Q) X.xe s := by
  refine wpAny_call (codeAny_mono (F B X.stack s H us vs Q E room e0 rv q) ?_)
  intro r s' z
  match r, z with
  | .error e, z => exact px pins σ H s e s' I z
  | .ok (.ret u), z => exact I.after z
  | .ok .next, z => exact z.elim
  | .ok .brk, z => exact z.elim
  | .ok .cont, z => exact z.elim
/-- len(o), o an instance whose class has its own __len__ -/
def rLenO (C : Addr) (sp : Sp) (E : XK) : List V → Hp → VK → Prop := fun xs H Q => ∃ a dx fs, xs = [.ref a] ∧ H a = some (.ins C dx fs) ∧
  sp [.ref a] H (fun v H' => ∃ n : Nat, v = .int n ∧ n ≤ sizeLine ∧ Q (.int n) H') E
theorem call_lenO (hs : PySem.W.findIn X.K (.ref C) "__len__" = some (some (.ref f))) (hf : PySem.W.typeIn X.K (.ref f) = some (.type "function"))
    (F : FnR X.prog X.w X.K X.mg X.base Z k f sp) (room : Room (k + 1) X.A) (px : Passes Z X E) : CallR X (.builtin "len") (rLenO C sp E) := by
  intro pins s σ H xs us Q I r h
  obtain ⟨a, dx, fs, rfl, ea, q⟩ := h
  obtain ⟨u, rfl, ru⟩ := r.one
  obtain rfl : u = Value.ref a := ru
  obtain ⟨mA, O, _, _, _, _⟩ := ins_get I.hok ea
  obtain ⟨od, J, _⟩ := O.look
  refine Calls.call_function_entry kind_len plain_len entry_len (args_len1 _) ?_
  unfold Builtin.«len»
  refine wpAny_bind (m := oneArg "len" _) (wpAny_pure ?_)
  refine wpAny_bind (m := callSpecial? (.ref a) (Str.ofString "__len__")) (PySem.W.special_fn (args := []) I.kIn J hs hf (wpAny_mono (atRun (us := [.ref a]) (vs := [.ref a]) F room.in1 I.env0.in1 px I (.cons rfl .nil) q) (fun r s' z => ?_) fun _ _ z => z))
  obtain ⟨v, H', I', rv, n, rfl, hn, qn⟩ := z
  obtain ⟨t, rfl⟩ := rv
  rw [sizeLine_eq] at hn
  refine wpAny_bind (wpAny_holding (wpAny_pure ?_))
  refine wpAny_bind (wpAny_letGo ?_)
  show wpAny _ _ (if (n : Int) < 0 then _ else _) _ _ _
  rw [if_neg (by omega)]
  show wpAny _ _ (if (n : Int) ≥ 2 ^ 63 then _ else _) _ _ _
  rw [if_neg (by omega)]
  exact wpAny_bind (wpAny_mkInt (wpAny_pure ⟨_, rfl, .int n, H', I'.tok _, ⟨_, rfl⟩, qn⟩))
end

/-! ### methods by keywords, and such as may raise -/
section
variable {X : Cx} {Z : CXT} {k n : Nat} {C f : Addr} {fd : FuncData} {ps ks : List Str} {sp : Sp} {m : Str} {pos apos : Pos} {o e : Expr} {es : List Expr} {kws : List Keyword} {to : TE} {t tk : TA}
  {g : List Value → List Value → List Value} {gV : List V → List V → List V} {E : L2.St → XK} {pl : Sem Bool}
/-- o.m(e, .., k = v, ..): n positional values with self, mm keywords -/
def tMK (C : Addr) (m : Str) (n mm : Nat) (sp : Sp) (gV : List V → List V → List V) (E : L2.St → XK) (to : TE) (t tk : TA) : TE := fun σ H Q =>
  to σ H fun x H1 => ∃ a dx fs, x = .ref a ∧ H1 a = some (.ins C dx fs) ∧ fs.lookup m = none ∧ t σ H1 fun vs H2 => tk σ H2 fun zs H3 => (V.ref a :: vs).length = n ∧ zs.length = mm ∧ sp (gV (.ref a :: vs) zs) H3 Q (E σ)
theorem runK {pins : List (Addr × Obj)} {σ : L2.St} {H : Hp} {s : Shared} {Q : VK} {us ws : List Value} {vs zs : List V} (F : FnOk X.prog X.w X.K X.mg X.base Z k f fd ps sp) (room : Room k X.A) (kb : KBn X.K fd ps n ks g gV)
    (px : PassesAt Z X σ (E σ)) (I : Inv X pins σ H s) (rv : Vals vs us) (rz : Vals zs ws) (l1 : vs.length = n) (l2 : zs.length = ks.length) (q : sp (gV vs zs) H Q (E σ)) :
    wpAny (model X.prog X.w) X.A (call (.ref f) us (ks.zip ws)) (EP X pins σ Q) X.xe s := by
  have rr := kb.rel rv rz
  have cc := F.run X.A X.stack s H ⟨us, ks.zip ws⟩ (g us ws) (gV vs zs) Q (E σ) room I.env0 (kb.to s us ws I.kIn (rv.length.symm.trans l1) (rz.length.symm.trans l2)) rr q
  refine wpAny_call (codeAny_mono cc ?_)
  intro r s' z
  match r, z with
  | .error e, z => exact px pins H s e s' I z
  | .ok (.ret u), z => exact I.after z
  | .ok .next, z => exact z.elim
  | .ok .brk, z => exact z.elim
  | .ok .cont, z => exact z.elim
/-- with some positional arguments -/
theorem pe_mk1 (he : PE X o to) (c : Cls X.K C) (hm : Meth X.K C m f) (F : FnOk X.prog X.w X.K X.mg X.base Z k f fd ps sp) (room : Room k X.A) (kb : KBn X.K fd ps n ks g gV) (px : ∀ σ, PassesAt Z X σ (E σ))
    (pa : PA X (e :: es) t) (pk : PK X kws tk) (all : (backToKw pos (keywordEach kws X.env)).all (·.1.isSome) = true := by rfl) (nm : (backToKw pos (keywordEach kws X.env)).filterMap (·.1) = ks := by rfl)
    (st : starEach (e :: es) X.env = (false, eval e X.env) :: starEach es X.env := by rfl)
    (pn : ((backTo pos (starEach (e :: es) X.env)).any (·.1) || (backToKw pos (keywordEach kws X.env)).any (·.1.isNone)) = false := by rfl)
    (form : eval (.Call (.Attribute o m apos) (e :: es) kws pos) X.env = (do
      let ov ← eval o X.env
      standAt apos.atName
      let (f, first) ← holding [ov] (getMethod ov m pl)
      callWith pos f first (backTo pos (starEach (e :: es) X.env)) (backToKw pos (keywordEach kws X.env))) := by rfl) :
    PE X (.Call (.Attribute o m apos) (e :: es) kws pos) (tMK C m n ks.length sp gV E to t tk) := by
  constructor
  intro pins s σ H Q I h
  refine PySem.W.methodCall_KW (pl := pl) (thn (he.run pins s σ H _ I h) fun u s1 ⟨x, H1, I1, rx, a, dx, fs, ex, ea, l, q⟩ => ?_) form
  subst ex
  obtain rfl : u = Value.ref a := rx
  refine getmeth_ok I1 ea c hm l (PySem.W.callWith_KW (first := [.ref a]) (h₀ := X.base) I.ok.mod.kin hm.kp all (thn (pa.run pos pins s1 σ H1 _ I1 q) fun us s2 ⟨vs, H2, I2, rv, q2⟩ => ?_) pn st)
  refine thn (pk.run pos pins s2 σ H2 _ I2 q2) fun ws s3 ⟨zs, H3, I3, rz, l1, l2, q3⟩ => ⟨I3.kIn, ?_⟩
  rw [nm]
  exact runK (us := .ref a :: us) (vs := .ref a :: vs) F room kb (px σ) I3 (.cons rfl rv) rz l1 l2 q3
/-- keywords alone -/
theorem pe_mk0 (he : PE X o to) (c : Cls X.K C) (hm : Meth X.K C m f) (F : FnOk X.prog X.w X.K X.mg X.base Z k f fd ps sp) (room : Room k X.A) (kb : KBn X.K fd ps n ks g gV) (px : ∀ σ, PassesAt Z X σ (E σ))
    (pk : PK X kws tk) (all : (backToKw pos (keywordEach kws X.env)).all (·.1.isSome) = true := by rfl) (nm : (backToKw pos (keywordEach kws X.env)).filterMap (·.1) = ks := by rfl)
    (pn : ((backTo pos (starEach [] X.env)).any (·.1) || (backToKw pos (keywordEach kws X.env)).any (·.1.isNone)) = false := by rfl)
    (form : eval (.Call (.Attribute o m apos) [] kws pos) X.env = (do
      let ov ← eval o X.env
      standAt apos.atName
      let (f, first) ← holding [ov] (getMethod ov m pl)
      callWith pos f first (backTo pos (starEach [] X.env)) (backToKw pos (keywordEach kws X.env))) := by rfl) :
    PE X (.Call (.Attribute o m apos) [] kws pos) (tMK C m n ks.length sp gV E to tNil tk) := by
  constructor
  intro pins s σ H Q I h
  refine PySem.W.methodCall_KW (pl := pl) (thn (he.run pins s σ H _ I h) fun u s1 ⟨x, H1, I1, rx, a, dx, fs, ex, ea, l, q⟩ => ?_) form
  subst ex
  obtain rfl : u = Value.ref a := rx
  refine getmeth_ok I1 ea c hm l (PySem.W.callWith_KW0 (first := [.ref a]) (h₀ := X.base) I.ok.mod.kin hm.kp all ?_ pn)
  refine thn (pk.run pos pins s1 σ H1 _ I1 q) fun ws s3 ⟨zs, H3, I3, rz, l1, l2, q3⟩ => ⟨I3.kIn, ?_⟩
  rw [nm]
  exact runK (us := [.ref a]) (vs := [.ref a]) F room kb (px σ) I3 (.cons rfl .nil) rz l1 l2 q3
/-- o.m(e, ..), which may raise -/
def tMS (C : Addr) (m : Str) (sp : Sp) (E : L2.St → XK) (to : TE) (t : TA) : TE := fun σ H Q =>
  to σ H fun x H1 => ∃ a dx fs, x = .ref a ∧ H1 a = some (.ins C dx fs) ∧ fs.lookup m = none ∧ t σ H1 fun vs H2 => sp (.ref a :: vs) H2 Q (E σ)
theorem pe_ms (he : PE X o to) (c : Cls X.K C) (hm : Meth X.K C m f) (F : FnOk X.prog X.w X.K X.mg X.base Z k f fd ps sp) (room : Room k X.A) (b : Binds X.K fd ps []) (px : ∀ σ, PassesAt Z X σ (E σ)) (pa : PA X (e :: es) t)
    (st : starEach (e :: es) X.env = (false, eval e X.env) :: starEach es X.env := by rfl) (pn : (backTo pos (starEach es X.env)).any (·.1) = false := by rfl)
    (form : eval (.Call (.Attribute o m apos) (e :: es) [] pos) X.env = (do
      let ov ← eval o X.env
      standAt apos.atName
      let (f, first) ← holding [ov] (getMethod ov m pl)
      callWith pos f first (backTo pos (starEach (e :: es) X.env)) (backToKw pos (keywordEach [] X.env))) := by rfl) :
    PE X (.Call (.Attribute o m apos) (e :: es) [] pos) (tMS C m sp E to t) := by
  constructor
  intro pins s σ H Q I h
  refine PySem.W.methodCall_KW (pl := pl) (thn (he.run pins s σ H _ I h) fun u s1 ⟨x, H1, I1, rx, a, dx, fs, ex, ea, l, q⟩ => ?_) form
  subst ex
  obtain rfl : u = Value.ref a := rx
  refine getmeth_ok I1 ea c hm l (PySem.W.callWith_K (first := [.ref a]) (h₀ := X.base) I.ok.mod.kin hm.kp (thn (pa.run pos pins s1 σ H1 _ I1 q) fun us s2 ⟨vs, H2, I2, rv, q2⟩ => ⟨I2.kIn, ?_⟩) st pn)
  exact run_fnS (us := .ref a :: us) (vs := .ref a :: vs) F room b (px σ) I2 (.cons rfl rv) q2
end

/-! ### isinstance of an error that has fields -/
section
open PySem.W
variable {prog : Program} {w : World} {A : Around} {E : Value → Shared → Prop} {s : Shared} {K : Frag} {x D : Addr} {ox : Obj} {od : Option Obj}
theorem err_class {Q : Option Value → Shared → Prop} (T : ExcC K D) (hf : findObj K D od "__class__" = some (.bind (.builtin "getset_descriptor.__get__") (.builtin "object.__class__"))) (kin : K.In s.heap)
    (J : InstAt s.heap x ox D od) (h : Q (some (.ref D)) { s with toks := s.toks + 1 }) : wpAny (model prog w) A (getAttr? (.ref x) "__class__") Q E s := by
  obtain ⟨hp, g, d, t, os⟩ := s
  have ty := J.type (M := model prog w)
  have own := looks_findIn (M := model prog w) kin T.hg
  have no := looks_findIn (M := model prog w) kin T.hk
  have fnd := looks_find (M := model prog w) kin J hf
  have base : Looks (model prog w) hp (isInstance (.ref x) (.type "BaseException")) true := ty.andThen (looks_subIn kin T.hs)
  have b1 : (Value.builtin "BaseException.__getattribute__" == Value.builtin "object.__getattribute__") = false := by decide +kernel
  have b2 : (onTheHeap (Value.ref D) && Value.builtin "BaseException.__getattribute__" == Value.builtin "object.__getattribute__") = false := by
    rw [b1]
    rfl
  unfold getAttr? getAttrBy? getAttrBy
  refine wpAny_bind (wpAny_mkText (wpAny_bind (wpAny_attempt (wpAny_holding (wpAny_bind (ty.at (wpAny_bind (own.at ?_))))))))
  show wpAny _ _ (if (onTheHeap (Value.ref D) && Value.builtin "BaseException.__getattribute__" == Value.builtin "object.__getattribute__") = true then _ else _) _ _ _
  rw [if_neg (by rw [b2]; exact Bool.false_ne_true)]
  unfold getAttrByItsOwn hookBefore
  refine wpAny_bind ?_
  rw [if_pos (show onTheHeap (Value.ref D) = true from rfl)]
  refine no.at (wpAny_bind (wpAny_attempt (wpAny_holding ?_)))
  unfold callGetattribute
  rw [if_neg (show ¬ (false && onTheHeap (Value.builtin "BaseException.__getattribute__")) = true from Bool.false_ne_true)]
  unfold boundAndCalled
  rw [PySem.F.excAttr_ValueError.ga.bind (.ref x)]
  refine wpAny_bind (wpAny_pure ?_)
  show wpAny _ _ (call (.builtin "BaseException.__getattribute__") [.ref x, .str "__class__" t]) _ _ _
  refine wpAny_call (codeAny_call_builtin PySem.F.excAttr_ValueError.ga.plain PySem.F.entry_bexc_ga (@check_slot (model prog w) _ _ ⟨hp, g, d, t + 1, os⟩ "BaseException.__getattribute__" "BaseException" "__getattribute__" (.ref x) [.str "__class__" t] [] _ (by decide +kernel) (by decide +kernel) base (PySem.F.args_bexc_ga (.ref x) (.str "__class__" t)) ?_))
  unfold Builtin.«object.__getattribute__»
  refine wpAny_bind (wpAny_of_eq (a := ((Value.ref x : Value), [Value.str "__class__" t])) (by first | rfl | (simp only [slotArgs]; rfl)) ?_)
  refine wpAny_bind (wpAny_pure (wpAny_bind (ty.at (wpAny_bind (fnd.at ?_)))))
  show wpAny _ _ (holding [Value.builtin "object.__class__"] (call (.builtin "getset_descriptor.__get__") [.builtin "object.__class__", .ref x, .ref D]) >>= ret) _ _ _
  refine wpAny_bind (wpAny_holding (wpAny_call (class_get (s := ⟨hp, g, d, t + 1, os⟩) (ox := ox) (od := od) kin J T.hm (wpAny_pure ?_))))
  show wpAny _ _ (handedOut (.ref D)) _ _ _
  rw [handedOut_of (v := .ref D) rfl]
  first
    | exact wpAny_pure (wpAny_pure h)
    | exact wpAny_pure h
    | exact wpAny_pure (wpAny_bind (wpAny_pure (wpAny_pure h)))
end
section
theorem err_kit {K : PySem.W.Frag} {a D : Addr} {oe : Obj} {od : Option Obj} (T : ExcC K D) (hf : PySem.W.findObj K D od "__class__" = some (.bind (.builtin "getset_descriptor.__get__") (.builtin "object.__class__"))) :
    PySem.W.KitX K (.ref a) (.ref D) (fun h => PySem.W.InstAt h a oe D od) where
  ty := fun _ _ _ J => J.type
  ca := fun kin J k => err_class T hf kin J k
  it := fun _ h kin _ => by
    obtain ⟨cd, hc, _⟩ := PySem.W.any_some T.hd
    unfold PySem.W.clsIn at hc
    split at hc
    · rename_i c' d' cd' sl' ho
      intro A' Q' E' s' keep q
      unfold isType loadHead
      exact wpAny_bind (wpAny_loadPart (keep _ _ (kin _ _ ho)) (wpAny_pure q))
    · cases hc
  ne := fun h tp dd its n sl kin htp => by
    obtain ⟨cd, hc, _⟩ := PySem.W.any_some T.hd
    rw [beq_eq_false_iff_ne]
    intro e
    obtain rfl := Value.ref.inj e
    unfold PySem.W.clsIn at hc
    split at hc
    · rename_i c' d' cd' sl' ho
      have z := (kin _ _ ho).symm.trans htp
      cases z
    · cases hc
/-- isinstance(e, c), e the error that the suite holds, with its fields -/
def rIsEF (K : PySem.W.Frag) (D a : Addr) (cls : Value) (d : Option Addr) : List V → Hp → VK → Prop := fun xs H Q => ∃ (dd : Addr) (fs : List (Str × V)) (c : V) (cv : Value) (b : Bool),
  cls = .ref D ∧ d = some dd ∧ H dd = some (.xd fs) ∧ xs = [.ref a, c] ∧ (∀ u, RelV c u → u = cv) ∧ PySem.W.kitOne K (.ref D) cv = some b ∧ Q (.bl b) H
theorem call_isEF {X : Cx} {a D : Addr} {oe : Obj} {cls : Value} {d : Option Addr} {pn : List (Addr × Obj)} (T : ExcC X.K D) (hz : Zc cls d oe) (hf : ∃ vs, oe.data = .fields vs) :
    CallR (X.suite a ((a, oe) :: pn)) (.builtin "isinstance") (rIsEF X.K D a cls d) := by
  intro pins s σ H xs us Q I r h
  obtain ⟨dd, fs, c, cv, b, rfl, rfl, hd, rfl, hcv, e, q⟩ := h
  match r with
  | .cons rx (.cons rt .nil) =>
    cases rx
    obtain rfl := hcv _ rt
    obtain ⟨hget, _⟩ := I.pin (a, oe) (List.mem_append_left _ List.mem_cons_self)
    obtain ⟨vs, hv⟩ := hf
    have hx : ObjOk X.prog X.w H s.heap dd (.xd fs) := I.hok dd _ hd
    obtain ⟨mA, hns, _⟩ := hx
    obtain ⟨od, ho, _⟩ := lookIn_ns hns
    have J : PySem.W.InstAt s.heap a oe D (some od) := ⟨hget, hz.1, by unfold PySem.W.notCls; rw [hv] <;> rfl, by rw [hz.2]; exact ho⟩
    have hc : (PySem.W.clsIn X.K D).isSome = true := by
      obtain ⟨cd, hc, _⟩ := PySem.W.any_some T.hd
      rw [hc]
      rfl
    exact PySem.W.kia_one (err_kit T (PySem.W.findObj_data hc T.ha T.hn T.ht)) I.kIn J e (fun z => nomatch z) fun tk => ⟨.bl b, H, I.kept (t' := tk) fun _ _ z => z, rfl, q⟩
end
end Own

set_option Elab.async false
set_option maxRecDepth 100000
/-! generator methods by keywords; sorted, min and max of lists of data -/
namespace Own
open PySem PySem.Spec PyProof.Rows L2

/-! ### list(o.m(.., k = v)), m a generator -/
section
variable {X : Cx} {k n : Nat} {C f : Addr} {fd : FuncData} {ps ks : List Str} {sp : SpG} {m : Str} {pos apos : Pos} {o e : Expr} {es : List Expr} {kws : List Keyword} {to : TE} {t tk : TA}
  {g : List Value → List Value → List Value} {gV : List V → List V → List V} {E : XK} {pl : Sem Bool}
theorem run_gK {pins : List (Addr × Obj)} {σ : L2.St} {H : Hp} {s : Shared} {us ws : List Value} {vs zs : List V} {cont : List V → Hp → Prop} {E1 : Value → Shared → Prop} (F : GFn X.prog X.w X.K X.mg X.base k f fd ps sp) (hr : Room k X.A)
    (kb : KBn X.K fd ps n ks g gV) (I : Inv X pins σ H s) (rv : Vals vs us) (rz : Vals zs ws) (l1 : vs.length = n) (l2 : zs.length = ks.length) (h : sp (gV vs zs) H cont E) :
    wpAny (model X.prog X.w) X.A (call (.ref f) us (ks.zip ws)) (fun u s' => ∃ H1 sc ex, Inv X pins σ H1 sc ∧ ExOk X pins ex ∧ GMade X.prog X.w k X.stack H1 sc ex cont E u s') E1 s := by
  refine wpAny_call (codeAny_mono (F.run X.A X.stack s H ⟨us, ks.zip ws⟩ (g us ws) (gV vs zs) cont E hr I.env0 (kb.to s us ws I.kIn (rv.length.symm.trans l1) (rz.length.symm.trans l2)) (kb.rel rv rz) h) fun r s' hq => ?_)
  match r, hq with
  | .error e, hq => exact hq.elim
  | .ok (.ret u), hq => exact ⟨H, s, [], I, .nil, hq⟩
  | .ok .next, hq => exact hq.elim
  | .ok .brk, hq => exact hq.elim
  | .ok .cont, hq => exact hq.elim
def tMGK (C : Addr) (m : Str) (n mm : Nat) (sp : SpG) (gV : List V → List V → List V) (E : XK) (to : TE) (t tk : TA) : TGen := fun σ H cont => to σ H fun x H1 => ∃ a dx fs, x = .ref a ∧ H1 a = some (.ins C dx fs) ∧ fs.lookup m = none ∧
  t σ H1 fun vs H2 => tk σ H2 fun zs H3 => (V.ref a :: vs).length = n ∧ zs.length = mm ∧ sp (gV (.ref a :: vs) zs) H3 cont E
theorem pgen_mk1 (he : PE X o to) (c : Cls X.K C) (hm : Meth X.K C m f) (F : GFn X.prog X.w X.K X.mg X.base k f fd ps sp) (hr : Room k X.A) (kb : KBn X.K fd ps n ks g gV) (pa : PA X (e :: es) t) (pk : PK X kws tk)
    (all : (backToKw pos (keywordEach kws X.env)).all (·.1.isSome) = true := by rfl) (nm : (backToKw pos (keywordEach kws X.env)).filterMap (·.1) = ks := by rfl)
    (st : starEach (e :: es) X.env = (false, eval e X.env) :: starEach es X.env := by rfl)
    (pn : ((backTo pos (starEach (e :: es) X.env)).any (·.1) || (backToKw pos (keywordEach kws X.env)).any (·.1.isNone)) = false := by rfl)
    (form : eval (.Call (.Attribute o m apos) (e :: es) kws pos) X.env = (do
      let ov ← eval o X.env
      standAt apos.atName
      let (f, first) ← holding [ov] (getMethod ov m pl)
      callWith pos f first (backTo pos (starEach (e :: es) X.env)) (backToKw pos (keywordEach kws X.env))) := by rfl) :
    PGen X k (.Call (.Attribute o m apos) (e :: es) kws pos) (tMGK C m n ks.length sp gV E to t tk) E := by
  constructor
  intro pins s σ H cont I h
  refine PySem.W.methodCall_KW (pl := pl) (thn (he.run pins s σ H _ I h) fun u s1 ⟨x, H1, I1, rx, a, dx, fs, ex, ea, l, q⟩ => ?_) form
  subst ex
  obtain rfl : u = Value.ref a := rx
  refine getmeth_ok I1 ea c hm l (PySem.W.callWith_KW (first := [.ref a]) (h₀ := X.base) I.ok.mod.kin hm.kp all (thn (pa.run pos pins s1 σ H1 _ I1 q) fun us s2 ⟨vs, H2, I2, rv, q2⟩ => ?_) pn st)
  refine thn (pk.run pos pins s2 σ H2 _ I2 q2) fun ws s3 ⟨zs, H3, I3, rz, l1, l2, q3⟩ => ⟨I3.kIn, ?_⟩
  rw [nm]
  exact run_gK (us := .ref a :: us) (vs := .ref a :: vs) F hr kb I3 (.cons rfl rv) rz l1 l2 q3
theorem pgen_mk0 (he : PE X o to) (c : Cls X.K C) (hm : Meth X.K C m f) (F : GFn X.prog X.w X.K X.mg X.base k f fd ps sp) (hr : Room k X.A) (kb : KBn X.K fd ps n ks g gV) (pk : PK X kws tk)
    (all : (backToKw pos (keywordEach kws X.env)).all (·.1.isSome) = true := by rfl) (nm : (backToKw pos (keywordEach kws X.env)).filterMap (·.1) = ks := by rfl)
    (pn : ((backTo pos (starEach [] X.env)).any (·.1) || (backToKw pos (keywordEach kws X.env)).any (·.1.isNone)) = false := by rfl)
    (form : eval (.Call (.Attribute o m apos) [] kws pos) X.env = (do
      let ov ← eval o X.env
      standAt apos.atName
      let (f, first) ← holding [ov] (getMethod ov m pl)
      callWith pos f first (backTo pos (starEach [] X.env)) (backToKw pos (keywordEach kws X.env))) := by rfl) :
    PGen X k (.Call (.Attribute o m apos) [] kws pos) (tMGK C m n ks.length sp gV E to tNil tk) E := by
  constructor
  intro pins s σ H cont I h
  refine PySem.W.methodCall_KW (pl := pl) (thn (he.run pins s σ H _ I h) fun u s1 ⟨x, H1, I1, rx, a, dx, fs, ex, ea, l, q⟩ => ?_) form
  subst ex
  obtain rfl : u = Value.ref a := rx
  refine getmeth_ok I1 ea c hm l (PySem.W.callWith_KW0 (first := [.ref a]) (h₀ := X.base) I.ok.mod.kin hm.kp all ?_ pn)
  refine thn (pk.run pos pins s1 σ H1 _ I1 q) fun ws s3 ⟨zs, H3, I3, rz, l1, l2, q3⟩ => ⟨I3.kIn, ?_⟩
  rw [nm]
  exact run_gK (us := [.ref a]) (vs := [.ref a]) F hr kb I3 (.cons rfl .nil) rz l1 l2 q3
end

/-! ### sorted(xs), xs data -/
section
variable {X : Cx}
open PySem.W in
theorem eachV {pins : List (Addr × Obj)} {σ : L2.St} {H : Hp} {s : Shared} (I : Inv X pins σ H s) : ∀ {bs : List (V × PyData)} {its : List Value}, Vals (bs.map (·.1)) its → (∀ b ∈ bs, Dp X.K H b.1 b.2) →
    EachIs (fun v (b : V × PyData) => RelV b.1 v) its bs ∧ EachIs (fun v (b : V × PyData) => ∃ as, Reads s.heap v b.2 as) its bs
  | [], _, r, _ => by
    cases r
    exact ⟨.nil, .nil⟩
  | b :: bs, _, r, h => by
    rw [List.map_cons] at r
    cases r with
    | cons r1 r2 =>
      obtain ⟨a1, a2⟩ := eachV I r2 fun c hc => h c (List.mem_cons_of_mem _ hc)
      exact ⟨.cons r1 a1, .cons (Dp.reads I b.2 b.1 _ (h b List.mem_cons_self) r1) a2⟩
open PySem.W in
theorem eachVals : ∀ {bs : List (V × PyData)} {its : List Value}, EachIs (fun v (b : V × PyData) => RelV b.1 v) its bs → Vals (bs.map (·.1)) its
  | _, _, .nil => .nil
  | _, _, .cons a b => .cons a (eachVals b)
/-- bs: the items with what they read as -/
def rSortedD (K : PySem.W.Frag) : List V → Hp → VK → Prop := fun xs H Q => ∃ (a : Addr) (bs : List (V × PyData)), xs = [.ref a] ∧ SqL K H a (bs.map (·.1)) ∧ (∀ b ∈ bs, Dp K H b.1 b.2 ∧ b.2.depth ≤ 50) ∧ PySem.W.AllAlike (bs.map (·.2)) ∧ PySem.W.Sortable (bs.map (·.2)) ∧
  ∀ p, H p = none → Q (.ref p) (upd H p (.lst ((bs.mergeSort (PySem.W.dataLe false fun b : V × PyData => b.2)).map (·.1))))
theorem call_sortedD (hu : X.A.units + 64 < cLine) : CallR X (.builtin "sorted") (rSortedD X.K) := by
  intro pins s σ H xs us Q I r h
  obtain ⟨a, bs, rfl, hs, hd, ha, hk, q⟩ := h
  obtain ⟨its, rv, hl, hz⟩ := I.list hs
  obtain ⟨u, rfl, ru⟩ := r.one
  obtain rfl : u = Value.ref a := ru
  obtain ⟨e1, e2⟩ := eachV I rv fun b hb => (hd b hb).1
  rw [List.length_map] at hz
  refine PySem.W.sorted_data (enc := fun b : V × PyData => b.2) hl.isList e1 e2 ha hk hz (fun b hb => ?_) fun out ho eo => ?_
  · have := (hd b hb).2
    omega
  · obtain ⟨c, hc⟩ := PyProof.Rows.sortedAll_at s.heap its out.toArray
    have fresh : H (s.heap.objs.size + 1) = none := I.hok.fresh (Nat.le_succ _)
    refine ⟨.ref _, _, I.laid (o := .lst ((bs.mergeSort (PySem.W.dataLe false fun b : V × PyData => b.2)).map (·.1))) (t' := s.toks) (fun b o e => PyProof.Rows.sortedAll_old e) (Nat.le_succ _) ⟨?_, out, c, eachVals eo, ?_⟩, rfl, q _ fresh⟩
    · rw [List.length_map, List.length_mergeSort]
      exact hz
    · rw [hc]
/-! ### min(xs), max(xs), xs data -/
/-- the item that is told is one of those whose data is the least (greatest) -/
def rBestD (K : PySem.W.Frag) (best : PyData → List PyData → PyData) : List V → Hp → VK → Prop := fun xs H Q => ∃ (a : Addr) (b : V × PyData) (bs : List (V × PyData)), xs = [.ref a] ∧ SqL K H a ((b :: bs).map (·.1)) ∧
  (∀ c ∈ b :: bs, Dp K H c.1 c.2 ∧ c.2.canLay0 = true) ∧ PySem.W.AlikeAll ((b :: bs).map (·.2)) ∧ PyData.depthAll ((b :: bs).map (·.2)) ≤ 50 ∧ ∀ c ∈ b :: bs, c.2 = best b.2 (bs.map (·.2)) → Q c.1 H
theorem dp_readsAll {pins : List (Addr × Obj)} {σ : L2.St} {H : Hp} {s : Shared} (I : Inv X pins σ H s) : ∀ {bs : List (V × PyData)} {its : List Value}, Vals (bs.map (·.1)) its → (∀ b ∈ bs, Dp X.K H b.1 b.2) → ∃ as, ReadsAll s.heap its (bs.map (·.2)) as
  | [], _, r, _ => by
    cases r
    exact ⟨_, .nil⟩
  | b :: bs, _, r, h => by
    rw [List.map_cons] at r
    cases r with
    | cons r1 r2 =>
      obtain ⟨as, q1⟩ := Dp.reads I b.2 b.1 _ (h b List.mem_cons_self) r1
      obtain ⟨cs, q2⟩ := dp_readsAll I r2 fun c hc => h c (List.mem_cons_of_mem _ hc)
      exact ⟨_, .cons q1 q2⟩
theorem vals_at : ∀ {bs : List (V × PyData)} {its : List Value}, Vals (bs.map (·.1)) its → ∀ {i : Nat} {v : Value}, its[i]? = some v → ∃ b ∈ bs, RelV b.1 v
  | [], _, r, i, v, e => by
    cases r
    simp at e
  | b :: bs, _, r, i, v, e => by
    rw [List.map_cons] at r
    cases r with
    | cons r1 r2 =>
      match i, e with
      | 0, e =>
        simp at e
        subst e
        exact ⟨b, List.mem_cons_self, r1⟩
      | i + 1, e =>
        simp at e
        obtain ⟨c, hc, h⟩ := vals_at r2 e
        exact ⟨c, List.mem_cons_of_mem _ hc, h⟩
theorem best_told {pins : List (Addr × Obj)} {σ : L2.St} {H : Hp} {s : Shared} {its : List Value} {bs : List (V × PyData)} {Q : VK} {d : PyData} (I : Inv X pins σ H s) (rv : Vals (bs.map (·.1)) its) (hd : ∀ c ∈ bs, Dp X.K H c.1 c.2 ∧ c.2.canLay0 = true)
    (q : ∀ c ∈ bs, c.2 = d → Q c.1 H) {i : Nat} {v : Value} {h' : Heap} {tk : Nat} {cs : List Addr} (e : its.toArray[i]? = some v) (r : Reads h' v d cs) (k : ∀ b o, s.heap.get? b = some o → h'.get? b = some o) : EP X pins σ Q v { s with heap := h', toks := tk } := by
  obtain ⟨c, hc, rc⟩ := vals_at rv (i := i) (v := v) (by simpa using e)
  obtain ⟨as, r2⟩ := Dp.reads I c.2 c.1 v (hd c hc).1 rc
  have e2 : c.2 = d := PySem.SeqAt.Reads.unique c.2 d v _ _ (hd c hc).2 (PyProof.Rows.Reads.keeps k r2) r
  exact ⟨c.1, H, I.kept k, rc, q c hc e2⟩
theorem call_minD (hc : X.calm = true) (hu : X.A.units + 64 < cLine) : CallR X (.builtin "min") (rBestD X.K PySem.W.minD) := by
  intro pins s σ H xs us Q I r h
  obtain ⟨a, b, bs, rfl, hs, hd, ha, hz, q⟩ := h
  obtain ⟨its, rv, hl, _⟩ := I.list hs
  obtain ⟨u, rfl, ru⟩ := r.one
  obtain rfl : u = Value.ref a := ru
  obtain ⟨as, ra⟩ := dp_readsAll I rv fun c hc => (hd c hc).1
  refine PySem.W.min_list_data (x := b.2) (xs := List.map (fun c : V × PyData => c.2) bs) (I.ok.hd hc) hl.isList (by simpa using ra) ha ?_ fun i v h' tk cs e r k => best_told I rv hd q e r k
  have z : PyData.depthAll (b.2 :: bs.map (·.2)) ≤ 50 := hz
  omega
theorem call_maxD (hc : X.calm = true) (hu : X.A.units + 64 < cLine) : CallR X (.builtin "max") (rBestD X.K PySem.W.maxD) := by
  intro pins s σ H xs us Q I r h
  obtain ⟨a, b, bs, rfl, hs, hd, ha, hz, q⟩ := h
  obtain ⟨its, rv, hl, _⟩ := I.list hs
  obtain ⟨u, rfl, ru⟩ := r.one
  obtain rfl : u = Value.ref a := ru
  obtain ⟨as, ra⟩ := dp_readsAll I rv fun c hc => (hd c hc).1
  refine PySem.W.max_list_data (x := b.2) (xs := List.map (fun c : V × PyData => c.2) bs) (I.ok.hd hc) hl.isList (by simpa using ra) ha ?_ fun i v h' tk cs e r k => best_told I rv hd q e r k
  have z : PyData.depthAll (b.2 :: bs.map (·.2)) ≤ 50 := hz
  omega
end
end Own

set_option Elab.async false
set_option maxRecDepth 100000
set_option maxHeartbeats 2000000
/-! d.items() walked by one name: each turn's pair is a tuple of its own -/
namespace Own
open PySem PySem.Spec PyProof.Rows PySem.W

section
variable {prog : Program} {w : World} {L : Type} [DecidableEq L] {kd : KeyKind prog w L} {A : Around} {E : Value → Shared → Prop} {s : Shared}
theorem get_alive {a : Addr} {Q : Option Obj → Shared → Prop} (h : Q (s.heap.get? a) s) : wpAny (model prog w) A (loadIfAlive a) Q E s := fun _ _ _ => h
/-- asked again, the pair of the turn before alive or not -/
theorem items_any {r d a : Addr} {fl : Bool} {i ep : Nat} {kvs : List (L × Value)} {k : L} {v y1 y2 : Value} {Q : Option Value → Shared → Prop} (hr : KdxIt s.heap r d i kvs.length ep y1 y2 a fl) (hd : s.heap.DictAt kd d kvs ep) (hx : kvs[i]? = some (k, v))
    (q : ∀ u h', kd.is k u = true → (∃ z1 z2 b gl, KdxIt h' r d (i + 1) kvs.length ep z1 z2 b gl) → h'.get? s.heap.objs.size = some { cls := .type "tuple", data := .seq #[u, v] } → h'.objs.size = s.heap.objs.size + 1 →
      (∀ b o, b ≠ r → s.heap.get? b = some o → h'.get? b = some o) → Q (some (.ref s.heap.objs.size)) { s with heap := h' }) :
    wpAny (model prog w) A (pyNext (.ref r)) Q E s := by
  obtain ⟨h0, gs, dn, tk, os⟩ := s
  obtain ⟨od, es, ho, hc, hdt, hk, hp, hn⟩ := id hd
  have ty : Shared.TypeIs ⟨h0, gs, dn, tk, os⟩ (.ref r) "dict_itemiterator" := ⟨_, hr, rfl⟩
  have own : Builtin.Dict_items.ownsTuple "dict_itemiterator" = true := by decide
  have sz : es.size = kvs.length := by rw [← hp.length, Array.length_toList]
  have lt : i < kvs.length := (List.getElem?_eq_some_iff.mp hx).1
  have lt' : i < es.size := by rw [sz]; exact lt
  obtain ⟨ek, ev⟩ := hp.get? (e := es[i]) (by simp [lt']) hx
  unfold pyNext
  refine wpAny_bind (wpAny_attempt (wpAny_callSpecial?_slot (name := Str.ofString "__next__") ty F.slot_dict_itemiterator_next (wpAny_call_entry F.slot_dict_itemiterator_next ty F.entry_dict_itemiterator_next ?body (F.args_dict_itemiterator_next_1 _))))
  case body =>
  refine wpAny_bind (wpAny_pure (wpAny_bind (wpAny_bind ?_)))
  (first | refine wpAny_bind (wpAny_typeNameOfWhole_itemiter ty (wpAny_pure ?_)) | refine wpAny_bind (wpAny_typeNameOf_itemiter ty (wpAny_pure ?_))); refine wpAny_bind (wpAny_fieldsOf hr rfl ?_)
  simp only [own, if_true]; show wpAny _ _ (if (Value.ref d == Value.none) = true then _ else _) _ _ _; rw [if_neg (show ¬ ((Value.ref d == Value.none) = true) from Bool.false_ne_true)]
  refine wpAny_bind (wpAny_pure (wpAny_bind (wpAny_dictEntries ho hdt ?_))); rw [if_neg (by rw [sz]; simp)]
  refine wpAny_bind (wpAny_pure (wpAny_bind (wpAny_dictEpoch ho hdt ?_))); rw [if_neg (by simp)]; refine wpAny_pure ?_
  simp only [show ¬ ((i : Int) < 0) from by omega, if_false, Int.toNat_natCast, Array.getElem?_eq_getElem lt']; refine wpAny_bind ?_
  (first | refine wpAny_bind (wpAny_typeNameOfWhole_itemiter ty (wpAny_pure ?_)) | refine wpAny_bind (wpAny_typeNameOf_itemiter ty (wpAny_pure ?_))); refine wpAny_bind (wpAny_isOneOf_itemiter ty ?_)
  show wpAny _ _ (setField (.ref r) 3 (rawInt ((i : Int) + 1)) >>= _) _ _ ⟨h0, gs, dn, tk, os⟩
  refine wpAny_bind (wpAny_setField_rec hr (by simp) fun h1 r1 b1 => ?_)
  replace b1 : Heap.SameBut r h0 h1 := b1
  replace r1 : KdxIt h1 r d (i + 1) kvs.length ep y1 y2 a fl := by
    have e : ((i + 1 : Nat) : Int) = (i : Int) + 1 := by omega
    unfold KdxIt
    rw [e]
    simpa [rawInt] using r1
  have ty1 : Shared.TypeIs ⟨h1, gs, dn, tk, os⟩ (.ref r) "dict_itemiterator" := ⟨_, r1, rfl⟩
  refine wpAny_bind (wpAny_holding (wpAny_bind (wpAny_isOneOf_itemiter ty1 (wpAny_bind (wpAny_isOneOf_itemiter ty1 ?_)))))
  show wpAny _ _ (Builtin.Dict_items.pairFromOwner (.ref r) 6 es[i].key es[i].val) _ _ ⟨h1, gs, dn, tk, os⟩
  unfold Builtin.Dict_items.pairFromOwner; refine wpAny_bind (wpAny_newTuple ?_)
  have r2 : KdxIt (h1.push { cls := .type "tuple", data := .seq #[es[i].key, es[i].val] }) r d (i + 1) kvs.length ep y1 y2 a fl := Heap.get?_push_of_some _ r1
  have z1 : h1.objs.size = h0.objs.size := b1.1
  have lr : r < h0.objs.size := Heap.lt_size hr
  have t2 : (h1.push { cls := .type "tuple", data := .seq #[es[i].key, es[i].val] }).get? h0.objs.size = some { cls := .type "tuple", data := .seq #[es[i].key, es[i].val] } := by rw [← z1]; exact Heap.get?_push_size _ rfl
  have z2 : (h1.push { cls := .type "tuple", data := .seq #[es[i].key, es[i].val] }).objs.size = h0.objs.size + 1 := by rw [Heap.size_push, z1]
  have k2 : ∀ b o, b ≠ r → h0.get? b = some o → (h1.push { cls := .type "tuple", data := .seq #[es[i].key, es[i].val] }).get? b = some o := fun b o hb e => Heap.get?_push_of_some _ (b1.extBut b o hb e)
  generalize h1.push { cls := .type "tuple", data := .seq #[es[i].key, es[i].val] } = h2 at r2 t2 z2 k2 ⊢
  rw [z1]
  have fin : ∀ (h3 : Heap) (y3 y4 : Value) (b : Addr) (gl : Bool), KdxIt h3 r d (i + 1) kvs.length ep y3 y4 b gl → Heap.SameBut r h2 h3 → Q (some (.ref h0.objs.size)) ⟨h3, gs, dn, tk, os⟩ := fun h3 y3 y4 b gl r3 b3 =>
    q es[i].key h3 ek ⟨y3, y4, b, gl, r3⟩ (by rw [← ev]; exact b3.extBut _ _ (Nat.ne_of_gt lr) t2) (by rw [b3.1, z2]) fun b o hb e => b3.extBut b o hb (k2 b o hb e)
  show wpAny _ _ (Builtin.Dict_items.ownedTupleIsFree (.ref r) >>= _) _ _ ⟨h2, gs, dn, tk, os⟩
  refine wpAny_bind ?_
  unfold Builtin.Dict_items.ownedTupleIsFree
  refine wpAny_bind (wpAny_field r2 rfl (x := rawInt a) rfl ?_)
  show wpAny _ _ (loadIfAlive ((a : Int).toNat) >>= _) _ _ _
  rw [Int.toNat_natCast]
  refine wpAny_bind (get_alive ?_)
  show wpAny _ _ (if (h2.get? a).isNone = true then _ else _) _ _ _
  cases e : h2.get? a with
  | some oa =>
    rw [if_neg (show ¬ ((some oa).isNone = true) from Bool.false_ne_true)]
    refine wpAny_bind (wpAny_field r2 rfl (x := .bool fl) rfl ?_)
    cases fl with
    | true =>
      rw [if_neg (show ¬ ((Value.bool true != .bool true) = true) from Bool.false_ne_true)]
      refine wpAny_pure (wpAny_pure (wpAny_pure ⟨_, rfl, wpAny_pure (fin h2 _ _ _ _ r2 (.refl _ _))⟩))
    | false =>
      rw [if_pos (show (Value.bool false != .bool true) = true from rfl)]
      refine wpAny_bind (wpAny_setField_rec r2 (by simp) fun h3 r3 b3 => ?_)
      have r3' : KdxIt h3 r d (i + 1) kvs.length ep y1 y2 a true := r3
      exact wpAny_pure (wpAny_pure (wpAny_pure ⟨_, rfl, wpAny_pure (fin h3 _ _ _ _ r3' b3)⟩))
  | none =>
    rw [if_pos (show ((none : Option Obj).isNone = true) from rfl)]
    refine wpAny_pure ?_
    show wpAny _ _ (if true = true then _ else _) _ _ _
    rw [if_pos rfl]
    show wpAny _ _ (field (.ref r) 6 >>= _) _ _ _
    refine wpAny_bind (wpAny_field r2 rfl (x := y1) rfl (wpAny_bind (wpAny_field r2 rfl (x := y2) rfl ?_)))
    refine wpAny_bind (wpAny_setField_rec r2 (by simp) fun h3 r3 b3 => wpAny_bind (wpAny_setField_rec r3 (by simp) fun h4 r4 b4 => wpAny_bind (wpAny_setField_rec r4 (by simp) fun h5 r5 b5 => wpAny_bind (wpAny_setField_rec r5 (by simp) fun h6 r6 b6 => ?_))))
    have r6' : KdxIt h6 r d (i + 1) kvs.length ep es[i].key es[i].val h0.objs.size false := r6
    have b26 : Heap.SameBut r h2 h6 := by
      have c3 : Heap.SameBut r h2 h3 := b3
      have c4 : Heap.SameBut r h3 h4 := b4
      have c5 : Heap.SameBut r h4 h5 := b5
      have c6 : Heap.SameBut r h5 h6 := b6
      exact ⟨by rw [c6.1, c5.1, c4.1, c3.1], fun b hb => by rw [c6.2 b hb, c5.2 b hb, c4.2 b hb, c3.2 b hb]⟩
    refine wpAny_bind (wpAny_letGo (wpAny_pure (wpAny_pure ⟨_, rfl, wpAny_pure (fin h6 _ _ _ _ r6' b26)⟩)))
end
/-! ### as a walk of the layer -/
/-- the iterator as it stands ahead of turn i -/
def ItAt (r d n ep : Nat) (i : Nat) (h : Heap) : Prop := (i = 0 ∧ ∃ y1 y2, IsItemIter h r d 0 n ep y1 y2) ∨ ∃ y1 y2 a fl, KdxIt h r d i n ep y1 y2 a fl
open L2 in
theorem turn_itemsN {P : Program} {w : World} {K : PySem.W.Frag} {d : Addr} {o : Obj} {es : Array DictEntry} {ep : Nat} {kvs : List (Key × V)} {y : Str} {p : Pos} (r : Addr) (hod : o.data = .dict es ep) :
    Turn P w K (.Name y p) (Iti d o kvs) [r] r (ItAt r d kvs.length ep) where
  mem := List.mem_singleton.mpr rfl
  obj := fun i h st b hb => by
    obtain rfl := List.mem_singleton.mp hb
    rcases st with ⟨_, y1, y2, e⟩ | ⟨y1, y2, a, fl, e⟩
    · exact ⟨_, e, fun v z => nomatch z⟩
    · exact ⟨_, e, fun v z => nomatch z⟩
  keep := fun i h h' st k => by
    rcases st with ⟨e0, y1, y2, e⟩ | ⟨y1, y2, a, fl, e⟩
    · exact .inl ⟨e0, y1, y2, k r (List.mem_singleton.mpr rfl) _ e⟩
    · exact .inr ⟨y1, y2, a, fl, k r (List.mem_singleton.mpr rfl) _ e⟩
  item := by
    intro X hP hw hK hc i pins s σ H E I hf st hg
    subst hP hw hK
    obtain ⟨hd, hi⟩ := hg
    obtain ⟨hs, hgd, hx, es', ep', vs, dat_, n_, kv, at_⟩ := I.frzK hd
    obtain ⟨rfl, rfl⟩ : es = es' ∧ ep = ep' := ⟨(dict_ep hod dat_).1.symm, (dict_ep hod dat_).2.symm⟩
    obtain ⟨⟨k, v⟩, hkv⟩ : ∃ q, kvs[i]? = some q := ⟨kvs[i], List.getElem?_eq_getElem hi⟩
    obtain ⟨u, hu, ru⟩ := kv_get kv hkv
    have len_ : kvs.length = vs.length := Paired.length kv
    have after : ∀ (key : Value) (h' : Heap), keyIs k key = true → (∃ z1 z2 b gl, KdxIt h' r d (i + 1) vs.length ep z1 z2 b gl) → h'.get? s.heap.objs.size = some { cls := .type "tuple", data := .seq #[key, u] } →
        (∀ b ob, b ≠ r → s.heap.get? b = some ob → h'.get? b = some ob) → r < s.heap.objs.size →
        ∃ uu, some (Value.ref s.heap.objs.size) = some uu ∧ wpAny (model X.prog X.w) X.A (letOwnedTupleGo (.Name y p) (.ref r) uu) (fun _ s2 => ∃ x H', Inv X pins σ H' s2 ∧ RelV x uu ∧ (Iti d o kvs).yld i H x H' ∧ ItAt r d kvs.length ep (i + 1) s2.heap ∧ ∀ b ∈ [r], H' b = none) E { s with heap := h' } := by
      intro key h' hkey st' hT hk lt
      have new : ObjOk X.prog X.w (upd H s.heap.objs.size (.tup [kV k, v])) h' s.heap.objs.size (.tup [kV k, v]) :=
        ⟨by show 2 ≤ sizeLine; decide, [key, u], .cons (relV_key hkey) (.cons ru .nil), ⟨_, hT, rfl, _, rfl⟩⟩
      have I1 : Inv X pins σ (upd H s.heap.objs.size (.tup [kV k, v])) { s with heap := h' } :=
        I.turnedNew (t' := s.toks) (ch := [r]) (fun b ob hb e => hk b ob (fun z => hb (List.mem_singleton.mpr z)) e) hf (Nat.le_refl _) new
      refine ⟨_, rfl, wpAny_pure ⟨.ref s.heap.objs.size, _, I1, rfl, ⟨_, k, v, hkv, rfl, I.hok.fresh (Nat.le_refl _), rfl⟩, .inr ?_, fun b hb => ?_⟩⟩
      · rw [len_]
        exact st'
      · obtain rfl := List.mem_singleton.mp hb
        rw [upd_ne (Nat.ne_of_lt lt)]
        exact (hf b hb).1
    rcases st with ⟨rfl, y1, y2, he⟩ | ⟨y1, y2, a, fl, he⟩
    · rw [len_] at he
      exact wpAny_pyNext_items_item he at_ hu fun key h' hkey ho hT hz hk => after key h' hkey ⟨_, _, _, _, ho⟩ hT hk (Heap.lt_size he)
    · rw [len_] at he
      exact items_any he at_ hu fun key h' hkey st' hT hz hk => after key h' hkey st' hT hk (Heap.lt_size he)
  done := by
    intro X hP hw hK hc i pins s σ H E I hf st hg
    subst hP hw hK
    obtain ⟨hd, hi⟩ := hg
    obtain ⟨f0, f1, f2, f3, f4, f5⟩ := hf r (List.mem_singleton.mpr rfl)
    obtain ⟨hs, hgd, hx, es', ep', vs, dat_, n_, kv, at_⟩ := I.frzK hd
    obtain ⟨rfl, rfl⟩ : es = es' ∧ ep = ep' := ⟨(dict_ep hod dat_).1.symm, (dict_ep hod dat_).2.symm⟩
    have len_ : kvs.length = vs.length := Paired.length kv
    have none_ : vs[i]? = none := List.getElem?_eq_none (by omega)
    rcases st with ⟨rfl, y1, y2, he⟩ | ⟨y1, y2, a, fl, he⟩
    · rw [len_] at he
      exact wpAny_pyNext_items_end (I.ok.hd hc) he at_ none_ fun h' eb => ⟨rfl, I.turned (t' := s.toks) (fun b ob hb e => eb b ob hb e) f0 f1 f3 f4 f5⟩
    · rw [len_] at he
      exact kdx_end_out (I.ok.hd hc) he at_ none_ fun h' eb => ⟨rfl, I.turned (t' := s.toks) (fun b ob hb e => eb b ob hb e) f0 f1 f3 f4 f5⟩
  self := fun A i s Q E st h => by
    rcases st with ⟨_, y1, y2, e⟩ | ⟨y1, y2, a, fl, e⟩
    · exact PySem.W.kcp_self e h
    · have ty : s.TypeIs (.ref r) "dict_itemiterator" := ⟨_, e, rfl⟩
      exact wpAny_pyIter_slot ty F.slot_dict_itemiterator_iter (wpAny_call_entry F.slot_dict_itemiterator_iter ty kcp_entry (show wpAny _ _ (ret (.ref r)) _ _ s from wpAny_pure ⟨_, rfl, "dict_itemiterator", _, ty, F.slot_dict_itemiterator_next.lookup, h⟩) (F.args_dict_itemiterator_iter_1 _))
open L2 in
/-- for x in d.items(), x one name -/
theorem pi_itemsN {X : L2.Cx} {e : Expr} {td : L2.TE} {apos cpos p : Pos} {y : Str} (he : L2.PE X e td) (hb : attributeBase e "items" X.env (eval e X.env) = eval e X.env := by rfl) (len_ine : (apos.endLine == cpos.line) = true := by rfl) :
    L2.PI X (.Name y p) (.Call (.Attribute e "items" apos) [] [] cpos) (L2.iItems td) := by
  constructor
  intro pins s σ H R I h
  refine wpAny_Call_method (T := "dict") (id := "dict.items") hb rfl len_ine F.plainAttrs_dict F.slot_dict_items F.type_dict_items (thn (he.run pins s σ H _ I h) fun u s1 ⟨x, H1, I1, rx, d, o, kvs, ex, hd, q⟩ => ?_)
  subst ex
  obtain rfl : u = Value.ref d := rx
  obtain ⟨hs, hgd, hx, es, ep, vs, dat_, n_, kv, at_⟩ := I1.frzK hd
  have len_ : kvs.length = vs.length := Paired.length kv
  refine ⟨at_.dictOf.typeIs, at_.dictOf.mapOf.noDict, ?_⟩
  have I2 : L2.Inv X pins σ H1 { s1 with heap := s1.heap.push { cls := .type "dict_items", data := .fields #[.ref d] } } := I1.kept (t' := s1.toks) fun b ob z => Heap.get?_push_of_some _ z
  have then_ : wpAny (model X.prog X.w) X.A (pyIter (.ref s1.heap.objs.size)) (L2.PIE X pins σ (.Name y p) R) X.xe { s1 with heap := s1.heap.push { cls := .type "dict_items", data := .fields #[.ref d] } } := by
    refine wpAny_pyIter_items (d := d) (knd := L2.mixKind X.prog X.w) ⟨_, Heap.get?_push_size _ rfl, rfl, rfl⟩ (at_.push _) (L2.pi_one (tk := s1.toks) I2 _ (turn_itemsN _ dat_) (.inl ⟨rfl, .none, .none, ?_⟩) q)
    rw [len_]
    exact Heap.get?_push_size _ rfl
  show wpAny _ _ (callWith cpos (.builtin "dict.items") [.ref d] [] []) _ X.xe s1
  exact method_meetsIn F.slot_dict_items F.entry_dict_items rfl (PySem.evalArgs_none ⟨rfl, at_.dictOf.typeIs, F.args_dict_items_1 _, _, meets_dict_items (L2.mixKind X.prog X.w) d hs, ⟨vs, at_.dictOf⟩, then_⟩)
end Own

set_option Elab.async false
set_option maxRecDepth 100000
set_option maxHeartbeats 400000
/-! min and max of lists of tuples of whole numbers; calls of defs that raise nothing -/
namespace Own
open PySem PySem.Spec PyProof.Rows L2

/-! ### a def at a name, told without Quiet -/
structure CalF (P : Program) (w : World) (K : PySem.W.Frag) (mg : Str → Option Value) (g0 : Heap) (x : Str) (k : Nat) (ps : List Str) (sp : Sp) : Prop where
  ex : ∃ (f : Addr) (fd : FuncData), FnOk P w K mg g0 CX0 k f fd ps sp ∧ Binds K fd ps [] ∧ mg x = some (.ref f) ∧ PySem.W.keepIn K (.ref f) = true
theorem pe_cf {X : Cx} {k : Nat} {ps : List Str} {sp : Sp} {x : Str} {p pos : Pos} {e : Expr} {es : List Expr} {t : TA} (C : CalF X.prog X.w X.K X.mg X.base x k ps sp) (room : Room k X.A) (pa : PA X (e :: es) t) (gl : Gl X x := by rfl)
    (nodbg : (x == ("__debug__" : Str)) = false := by decide)
    (st : starEach (e :: es) X.env = (false, eval e X.env) :: starEach es X.env := by rfl) (pl : (backTo pos (starEach es X.env)).any (·.1) = false := by rfl) :
    PE X (.Call (.Name x p) (e :: es) [] pos) (tCall sp [] E0 t) := by
  obtain ⟨f, fd, F, bd, at_, kp⟩ := C.ex
  exact pe_call F room gl at_ kp bd .nil pass0 pa nodbg st pl

/-! ### the least and the greatest list -/
def minL (x : List Int) (xs : List (List Int)) : List Int := xs.foldl (fun a y => if HT.lexLt y a then y else a) x
def maxL (x : List Int) (xs : List (List Int)) : List Int := xs.foldl (fun a y => if HT.lexLt a y then y else a) x
def tupD (xs : List Int) : PyData := .tuple (xs.map PyData.int)
theorem minD_tup : ∀ (xs : List (List Int)) (x : List Int), PySem.W.minD (tupD x) (xs.map tupD) = tupD (minL x xs)
  | [], _ => rfl
  | y :: ys, x => by
    have ih := fun z => minD_tup ys z
    unfold PySem.W.minD minL at ih ⊢
    rw [List.map_cons, List.foldl_cons, List.foldl_cons]
    have e : PySem.W.dataLt (tupD y) (tupD x) = HT.lexLt y x := lt_ints y x
    rw [e]
    cases HT.lexLt y x with
    | true => exact ih y
    | false => exact ih x
theorem maxD_tup : ∀ (xs : List (List Int)) (x : List Int), PySem.W.maxD (tupD x) (xs.map tupD) = tupD (maxL x xs)
  | [], _ => rfl
  | y :: ys, x => by
    have ih := fun z => maxD_tup ys z
    unfold PySem.W.maxD maxL at ih ⊢
    rw [List.map_cons, List.foldl_cons, List.foldl_cons]
    have e : PySem.W.dataLt (tupD x) (tupD y) = HT.lexLt x y := lt_ints x y
    rw [e]
    cases HT.lexLt x y with
    | true => exact ih y
    | false => exact ih x
theorem lex_irr : ∀ xs : List Int, HT.lexLt xs xs = false
  | [] => rfl
  | x :: xs => by
    rw [HT.lexLt_cons, if_pos rfl]
    exact lex_irr xs
theorem minL_least : ∀ (xs : List (List Int)) (x : List Int), (∀ y ∈ x :: xs, HT.lexLt y (minL x xs) = false)
  | [], x => fun y hy => by
    rw [List.mem_singleton.mp hy]
    exact lex_irr x
  | z :: zs, x => fun y hy => by
    have e : minL x (z :: zs) = minL (if HT.lexLt z x then z else x) zs := rfl
    rw [e]
    cases c : HT.lexLt z x with
    | true =>
      rw [if_pos rfl]
      have ih := minL_least zs z
      rcases List.mem_cons.mp hy with rfl | hy
      · exact NtL.lex_tr _ _ _ (ih z List.mem_cons_self) (NtL.lex_asym _ _ c)
      · exact ih y hy
    | false =>
      rw [if_neg Bool.false_ne_true]
      have ih := minL_least zs x
      rcases List.mem_cons.mp hy with rfl | hy
      · exact ih _ List.mem_cons_self
      · rcases List.mem_cons.mp hy with rfl | hy
        · exact NtL.lex_tr _ _ _ (ih x List.mem_cons_self) c
        · exact ih y (List.mem_cons_of_mem _ hy)
theorem maxL_most : ∀ (xs : List (List Int)) (x : List Int), (∀ y ∈ x :: xs, HT.lexLt (maxL x xs) y = false)
  | [], x => fun y hy => by
    rw [List.mem_singleton.mp hy]
    exact lex_irr x
  | z :: zs, x => fun y hy => by
    have e : maxL x (z :: zs) = maxL (if HT.lexLt x z then z else x) zs := rfl
    rw [e]
    cases c : HT.lexLt x z with
    | true =>
      rw [if_pos rfl]
      have ih := maxL_most zs z
      rcases List.mem_cons.mp hy with rfl | hy
      · exact NtL.lex_tr _ _ _ (NtL.lex_asym _ _ c) (ih z List.mem_cons_self)
      · exact ih y hy
    | false =>
      rw [if_neg Bool.false_ne_true]
      have ih := maxL_most zs x
      rcases List.mem_cons.mp hy with rfl | hy
      · exact ih _ List.mem_cons_self
      · rcases List.mem_cons.mp hy with rfl | hy
        · exact NtL.lex_tr _ _ _ c (ih x List.mem_cons_self)
        · exact ih y (List.mem_cons_of_mem _ hy)
theorem tupD_inj {xs ys : List Int} (h : tupD xs = tupD ys) : xs = ys := by
  have e : xs.map PyData.int = ys.map PyData.int := by
    injection h
  exact (List.map_inj_right fun a b z => by injection z).mp e
/-- min(xs), max(xs): xs a list of tuples of whole numbers, not empty: k tells them -/
def rBestT (K : PySem.W.Frag) (bt : List Int → List Int → Bool) : List V → Hp → VK → Prop := fun xs H Q => ∃ (a : Addr) (ts : List Addr) (k : Addr → List Int), xs = [.ref a] ∧ ts ≠ [] ∧ SqL K H a (ts.map V.ref) ∧ (∀ t ∈ ts, H t = some (.tup ((k t).map V.int))) ∧
  ∀ t ∈ ts, (∀ u ∈ ts, bt (k u) (k t) = false) → Q (.ref t) H
def tagD (k : Addr → List Int) (t : Addr) : V × PyData := (.ref t, tupD (k t))
theorem canLay_tup : ∀ xs : List Int, PyData.canLayAll0 (xs.map PyData.int) = true
  | [] => rfl
  | x :: xs => by
    show (true && _) = true
    rw [canLay_tup xs]
    rfl
theorem tag_depth (k : Addr → List Int) : ∀ ts : List Addr, PyData.depthAll ((ts.map (tagD k)).map (·.2)) ≤ 1
  | [] => Nat.zero_le _
  | t :: ts => by
    show max (PyData.depthAll ((k t).map PyData.int) + 1) _ ≤ 1
    rw [depth_ints]
    exact Nat.max_le.mpr ⟨Nat.le_refl _, tag_depth k ts⟩
theorem tag_alike (k : Addr → List Int) (ts : List Addr) : PySem.W.AlikeAll ((ts.map (tagD k)).map (·.2)) := by
  refine ⟨fun x hx y hy => ?_, fun x hx => ?_⟩
  · rw [List.map_map] at hx hy
    obtain ⟨t, _, rfl⟩ := List.mem_map.mp hx
    obtain ⟨u, _, rfl⟩ := List.mem_map.mp hy
    exact alike_ints (k t) (k u)
  · rw [List.map_map] at hx
    obtain ⟨t, _, rfl⟩ := List.mem_map.mp hx
    exact fun z => by cases z
theorem best_of {K : PySem.W.Frag} {H : Hp} {Q : VK} {best : PyData → List PyData → PyData} {bl : List Int → List (List Int) → List Int} {bt : List Int → List Int → Bool} (hb : ∀ xs x, best (tupD x) (xs.map tupD) = tupD (bl x xs))
    (hl : ∀ (xs : List (List Int)) (x : List Int), ∀ y ∈ x :: xs, bt y (bl x xs) = false) {xs : List V} (h : rBestT K bt xs H Q) : rBestD K best xs H Q := by
  obtain ⟨a, ts0, k, rfl, ne, hs, ht, q⟩ := h
  cases ts0 with
  | nil => exact absurd rfl ne
  | cons t ts =>
  have e1 : (tagD k t :: ts.map (tagD k)).map (fun c : V × PyData => c.1) = (t :: ts).map V.ref := by
    rw [← List.map_cons, List.map_map]
    exact List.map_congr_left fun _ _ => rfl
  have e2 : (ts.map (tagD k)).map (fun c : V × PyData => c.2) = (ts.map k).map tupD := by
    rw [List.map_map, List.map_map]
    exact List.map_congr_left fun _ _ => rfl
  have d1 : ∀ c ∈ tagD k t :: ts.map (tagD k), Dp K H c.1 c.2 ∧ c.2.canLay0 = true := fun c hc => by
    rw [← List.map_cons] at hc
    obtain ⟨u, hu, rfl⟩ := List.mem_map.mp hc
    exact ⟨Dp.tup (SqT.of (ht u hu)) (dpAll_ints (k u)), canLay_tup (k u)⟩
  have d2 : PySem.W.AlikeAll ((tagD k t :: ts.map (tagD k)).map fun c : V × PyData => c.2) := by
    rw [← List.map_cons]
    exact tag_alike k (t :: ts)
  have d3 : PyData.depthAll ((tagD k t :: ts.map (tagD k)).map fun c : V × PyData => c.2) ≤ 50 := by
    rw [← List.map_cons]
    exact Nat.le_trans (tag_depth k (t :: ts)) (by decide)
  have d4 : ∀ c ∈ tagD k t :: ts.map (tagD k), c.2 = best (tagD k t).2 ((ts.map (tagD k)).map fun c : V × PyData => c.2) → Q c.1 H := fun c hc e => by
    rw [← List.map_cons] at hc
    obtain ⟨u, hu, rfl⟩ := List.mem_map.mp hc
    rw [e2] at e
    have e3 : tupD (k u) = tupD (bl (k t) (ts.map k)) := e.trans (hb (ts.map k) (k t))
    have e4 : k u = bl (k t) (ts.map k) := tupD_inj e3
    refine q u hu fun v hv => ?_
    rw [e4]
    refine hl (ts.map k) (k t) (k v) ?_
    rw [← List.map_cons]
    exact List.mem_map.mpr ⟨v, hv, rfl⟩
  exact ⟨a, tagD k t, ts.map (tagD k), rfl, e1 ▸ hs, d1, d2, d3, d4⟩
theorem call_minT {X : Cx} (hc : X.calm = true) (hu : X.A.units + 64 < cLine) : CallR X (.builtin "min") (rBestT X.K fun a b => HT.lexLt a b) :=
  fun pins s σ H xs us Q I r h => call_minD hc hu pins s σ H xs us Q I r (best_of minD_tup minL_least h)
theorem call_maxT {X : Cx} (hc : X.calm = true) (hu : X.A.units + 64 < cLine) : CallR X (.builtin "max") (rBestT X.K fun a b => HT.lexLt b a) :=
  fun pins s σ H xs us Q I r h => call_maxD hc hu pins s σ H xs us Q I r (best_of maxD_tup maxL_most h)
end Own

set_option Elab.async false
set_option maxRecDepth 100000
/-! what keywords bind; defs as they stand behind the top -/
namespace Own
open PySem PySem.Spec PyProof.Rows L2
theorem kb_of {K : PySem.W.Frag} {x qual : Str} {st : Stmt} {f : Addr} {fd : FuncData} {ps ks : List Str} {n : Nat} {g : List Value → List Value → List Value} {gV : List V → List V → List V} (F : Fun K x qual st f fd)
    (rel : ∀ {vs : List V} {us : List Value} {zs : List V} {ws : List Value}, Vals vs us → Vals zs ws → Vals (gV vs zs) (g us ws))
    (h : ∀ (kV doc pm : Value) (an : Option Addr) (cdv ct : Value) (us ws : List Value), us.length = n → ws.length = ks.length →
      bindArgs (PySem.W.fnOf x qual (defArgs st) (defBody st) (defScope st) .none kV doc pm an cdv ct) ⟨us, ks.zip ws⟩ = pure (ps.zip (g us ws))) : KBn K fd ps n ks g gV := by
  obtain ⟨oc, od, kV, doc, pm, an, cdv, ct, osl, rfl, _, _⟩ := F.ex
  exact ⟨fun s us ws _ l1 l2 => BindsTo.of_eq (h kV doc pm an cdv ct us ws l1 l2), rel⟩
/-- keywords for a def with defaults, none of which is needed -/
theorem kb_def {K : PySem.W.Frag} {x qual : Str} {params : Arguments} {body : List Stmt} {scope : Scope} {kws : List (Str × V)} {dvs : List V} {f : Addr} {fd : FuncData} {ps ks : List Str} {n : Nat} {g : List Value → List Value → List Value} {gV : List V → List V → List V}
    (F : FunD K x qual params body scope dvs kws f fd) (hd : dvs ≠ [])
    (rel : ∀ {vs : List V} {us : List Value} {zs : List V} {ws : List Value}, Vals vs us → Vals zs ws → Vals (gV vs zs) (g us ws))
    (h : ∀ (T : Addr) (kV doc pm : Value) (an : Option Addr) (cdv ct : Value) (us its ws : List Value), us.length = n → Vals dvs its → ws.length = ks.length →
      ∃ k, bindArgs (PySem.W.fnOf x qual params body scope (.ref T) kV doc pm an cdv ct) ⟨us, ks.zip ws⟩ = seqItems? (.ref T) >>= k ∧ k (some its.toArray) = pure (ps.zip (g us ws))) : KBn K fd ps n ks g gV := by
  obtain ⟨oc, od, dV, kV, doc, pm, an, cdv, ct, osl, rfl, lk, hcd, hD, hK⟩ := F.ex
  rcases hD with ⟨e, _⟩ | ⟨_, T, o, its, m, rfl, lT, oT, rT⟩
  · exact absurd e hd
  · refine ⟨fun s us ws X l1 l2 => ?_, rel⟩
    obtain ⟨k, e1, e2⟩ := h T kV doc pm an cdv ct us its ws l1 rT l2
    refine BindsTo.of_looks fun M => ?_
    rw [e1]
    exact looks_items X lT oT (.of_pure e2)
/-- keywords for a def whose defaults are keyword-only; ms: those that lack -/
theorem kb_kw {K : PySem.W.Frag} {x qual : Str} {params : Arguments} {body : List Stmt} {scope : Scope} {kws ms : List (Str × V)} {f : Addr} {fd : FuncData} {ps ks : List Str} {n : Nat} {g : List Value → List Value → List Value} {gV : List V → List V → List V}
    (F : FunD K x qual params body scope [] kws f fd) (hk : kws ≠ []) (hms : ∀ q ∈ ms, q ∈ kws)
    (rel : ∀ {vs : List V} {us : List Value} {zs : List V} {ws : List Value}, Vals vs us → Vals zs ws → Vals (gV vs zs) (g us ws))
    (h : ∀ (D : Addr) (doc pm : Value) (an : Option Addr) (cdv ct : Value) (us mv ws : List Value), us.length = n → Vals (ms.map (·.2)) mv → ws.length = ks.length →
      KwChain D ((ms.map (·.1)).zip mv) (bindArgs (PySem.W.fnOf x qual params body scope .none (.ref D) doc pm an cdv ct) ⟨us, ks.zip ws⟩) (ps.zip (g us ws))) : KBn K fd ps n ks g gV := by
  obtain ⟨oc, od, dV, kV, doc, pm, an, cdv, ct, osl, rfl, lk, hcd, hD, hK⟩ := F.ex
  rcases hD with ⟨_, rfl⟩ | ⟨e, _⟩
  · rcases hK with e | ⟨D, rfl, hq⟩
    · exact absurd e hk
    · obtain ⟨mv, hl, rk, hks⟩ := kwd_vals (ms := ms) fun q hm => hq q (hms q hm)
      exact ⟨fun s us ws X l1 l2 => BindsTo.of_looks fun M => KwChain.looks X hks (h D doc pm an cdv ct us mv ws l1 rk l2), rel⟩
  · exact absurd rfl e
theorem vals_rev : ∀ {zs : List V} {ws : List Value}, Vals zs ws → Vals zs.reverse ws.reverse
  | _, _, .nil => .nil
  | _, _, .cons h t => by
    rw [List.reverse_cons, List.reverse_cons]
    exact (vals_rev t).append (.cons h .nil)
theorem raw0 {P : Program} {w : World} {K : PySem.W.Frag} {mg : Str → Option Value} {g0 : Heap} {k : Nat} {f : Addr} {fd : FuncData} {ps : List Str} {sp : Sp} (F : FnOk P w K mg g0 CX0 k f fd ps sp) (b : Binds K fd ps []) : FnR P w K mg g0 CX0 k f sp :=
  (F.raw b .nil).imp fun vs H Q E h => by rw [List.append_nil]; exact h
/-- a def whose defaults are keyword-only, as the top leaves it -/
theorem funK_mk {K : PySem.W.Frag} {x qual : Str} {params : Arguments} {body : List Stmt} {scope : Scope} {kws : List (Str × V)} {f D : Addr} {oc doc pm cdv ct : Value} {od an : Option Addr} {osl : Array (Option Value)}
    (l : K.lookup f = some ⟨oc, od, .func (PySem.W.fnOf x qual params body scope .none (.ref D) doc pm an cdv ct), osl⟩) (c : PySem.W.codeIn K cdv qual = true) (k : PySem.W.keepIn K (.ref f) = true)
    (hq : ∀ q ∈ kws, ∃ u, PySem.W.nsIn K D q.1 = some (some u) ∧ RelV q.2 u) : FunD K x qual params body scope [] kws f (PySem.W.fnOf x qual params body scope .none (.ref D) doc pm an cdv ct) :=
  ⟨⟨_, _, _, _, _, _, _, _, _, _, rfl, l, c, .inl ⟨rfl, rfl⟩, .inr ⟨D, rfl, hq⟩⟩, k⟩
end Own

set_option Elab.async false
set_option maxRecDepth 100000
/-! == and x[k] by a class's own __eq__, __getitem__ -/
namespace Own
open PySem PySem.Spec PyProof.Rows L2

/-- what kind of thing a value is -/
def Kind (K : PySem.W.Frag) (C : Addr) (H : Hp) (y : V) : Prop := y = .non ∨ (∃ b, y = .bl b) ∨ (∃ i, y = .int i) ∨ (∃ z, y = .str z) ∨ (∃ p xs, y = .ref p ∧ SqL K H p xs) ∨ (∃ p xs, y = .ref p ∧ SqT K H p xs) ∨
  (∃ p kvs, y = .ref p ∧ H p = some (.dK kvs)) ∨ ∃ p dx fs, y = .ref p ∧ H p = some (.ins C dx fs)
/-- K's word: none of the builtin kinds comes ahead of the class at C -/
structure NotAhead (K : PySem.W.Frag) (C : Addr) : Prop where
  non : PySem.W.notFirst K C (.type "NoneType") = true
  bl : PySem.W.notFirst K C (.type "bool") = true
  int : PySem.W.notFirst K C (.type "int") = true
  str : PySem.W.notFirst K C (.type "str") = true
  lst : PySem.W.notFirst K C (.type "list") = true
  tup : PySem.W.notFirst K C (.type "tuple") = true
  dct : PySem.W.notFirst K C (.type "dict") = true

section
variable {X : Cx} {Z : CXT} {k : Nat} {C f : Addr} {sp : Sp} {E : XK}
theorem looks_type {M : Model} {s : Shared} {a : Addr} {o : Obj} {T : String} (h : s.heap.get? a = some o) (c : o.cls = .type T) : PySem.W.Looks M s.heap (typeOf (.ref a)) (.type T) :=
  c ▸ (PySem.W.Looks.ld h).andThen .now
theorem kind_looks {M : Model} {pins : List (Addr × Obj)} {σ : L2.St} {H : Hp} {s : Shared} {y : V} {u : Value} (I : Inv X pins σ H s) (n : NotAhead X.K C) (h : Kind X.K C H y) (r : RelV y u) :
    ∃ tb, PySem.W.Looks M s.heap (typeOf u) tb ∧ PySem.W.notFirst X.K C tb = true := by
  rcases h with rfl | ⟨b, rfl⟩ | ⟨i, rfl⟩ | ⟨z, rfl⟩ | ⟨p, xs, rfl, q⟩ | ⟨p, xs, rfl, q⟩ | ⟨p, kvs, rfl, q⟩ | ⟨p, dx, fs, rfl, q⟩
  · cases r; exact ⟨_, .now, n.non⟩
  · cases r; exact ⟨_, .now, n.bl⟩
  · obtain ⟨t, rfl⟩ := r; exact ⟨_, .now, n.int⟩
  · obtain ⟨t, rfl⟩ := r; exact ⟨_, .now, n.str⟩
  · cases r
    obtain ⟨its, _, ⟨o, n2, ho, hc, _⟩, _⟩ := I.list q
    exact ⟨_, looks_type ho hc, n.lst⟩
  · cases r
    obtain ⟨its, _, ho, _⟩ := I.tuple q
    obtain ⟨o, ho, hc, _⟩ := ho
    exact ⟨_, looks_type ho hc, n.tup⟩
  · cases r
    obtain ⟨o, ho, hc⟩ := (isD_at I (.inl ⟨kvs, .of q⟩)).1
    exact ⟨_, looks_type ho hc, n.dct⟩
  · cases r
    obtain ⟨mA, O, _⟩ := ins_get I.hok q
    obtain ⟨od, J, _⟩ := O.look
    exact ⟨_, J.type, by simp [PySem.W.notFirst]⟩
/-- x == y, x an object with an own __eq__ that tells True or False -/
def rEqO (K : PySem.W.Frag) (C : Addr) (sp : Sp) (E : XK) : R2 := fun x y H Q => ∃ a dx fs, x = .ref a ∧ H a = some (.ins C dx fs) ∧ Kind K C H y ∧ sp [.ref a, y] H (fun v H' => ∃ b, v = .bl b ∧ Q (.bl b) H') E
theorem op_eqO (hs : PySem.W.findIn X.K (.ref C) "__eq__" = some (some (.ref f))) (hf : PySem.W.isFn X.K (.ref f) = true) (n : NotAhead X.K C) (F : FnR X.prog X.w X.K X.mg X.base Z k f sp) (room : Room k X.A) (px : Passes Z X E) :
    OpR X (compareOp .Eq) (rEqO X.K C sp E) := by
  intro pins s σ H x y v u Q I rx ry h
  obtain ⟨a, dx, fs, rfl, ea, ky, q⟩ := h
  obtain rfl : v = Value.ref a := rx
  obtain ⟨mA, O, _⟩ := ins_get I.hok ea
  obtain ⟨od, J, _⟩ := O.look
  obtain ⟨tb, lt, nf⟩ := kind_looks I n ky ry
  obtain ⟨m, fr⟩ := I.fr
  show wpAny (model X.prog X.w) X.A (richCompare .Eq (.ref a) u) (EP X pins σ Q) X.xe s
  refine PySem.W.cmp_K (op := .Eq) room.units0 fr I.ok.mod.kin J lt nf hs hf (wpAny_call (codeAny_mono (run_fnR (us := [.ref a, u]) (vs := [.ref a, y]) F room px I (.cons rfl (.cons ry .nil)) q) fun r s' z => ?_))
  match r, z with
  | .error e, z => exact z
  | .ok .next, z => exact z.elim
  | .ok .brk, z => exact z.elim
  | .ok .cont, z => exact z.elim
  | .ok (.ret w), z =>
    obtain ⟨v, H', I', rv, b, rfl, q'⟩ := z
    cases rv
    exact ⟨.bl b, H', I', rfl, q'⟩
end

/-! ### x[k] by an own __getitem__ -/
section
variable {X : Cx} {Z : CXT} {k : Nat} {C f : Addr} {sp : Sp} {E : L2.St → XK} {o i : Expr} {ta tb : TE} {pos : Pos}
def tIxO (C : Addr) (sp : Sp) (E : L2.St → XK) (ta tb : TE) : TE := fun σ H Q => ta σ H fun x H1 => tb σ H1 fun y H2 => ∃ a dx fs, x = .ref a ∧ H2 a = some (.ins C dx fs) ∧ sp [.ref a, y] H2 Q (E σ)
theorem pe_ixO (hs : PySem.W.findIn X.K (.ref C) "__getitem__" = some (some (.ref f))) (hf : PySem.W.isFn X.K (.ref f) = true) (hq : PySem.W.fnIn X.K f = true)
    (F : FnR X.prog X.w X.K X.mg X.base Z k f sp) (room : Room (k + 1) X.A) (px : ∀ σ, PassesAt Z X σ (E σ)) (po : PE X o ta) (pi : PE X i tb)
    (pl : ∀ v u, subscripted i true v u = runValue (.builtin "lifetime.subscript" ⟨[v, u], []⟩) := by intro _ _; rfl) : PE X (.Subscript o i pos) (tIxO C sp E ta tb) := by
  constructor
  intro pins s σ H Q I h
  refine Subscript_ (binT po pi I h fun v u s2 x y H2 I2 rx ry q => ?_)
  obtain ⟨a, dx, fs, rfl, ea, q⟩ := q
  obtain rfl : v = Value.ref a := rx
  obtain ⟨mA, O, _⟩ := ins_get I2.hok ea
  obtain ⟨od, J, _⟩ := O.look
  obtain ⟨m, fr⟩ := I2.fr
  refine PySem.W.sub_K fr I2.ok.mod.kin J hs hq hf (wpAny_call (codeAny_mono (F X.A.in1 X.stack s2 H2 [.ref a, u] [.ref a, y] Q (E σ) room.in1 I2.env0.in1 (.cons rfl (.cons ry .nil)) q) fun r s' z => ?_)) (pl _ _)
  match r, z with
  | .error e, z => exact px σ pins H2 s2 e s' I2 z
  | .ok (.ret w), z => exact I2.after z
  | .ok .next, z => exact z.elim
  | .ok .brk, z => exact z.elim
  | .ok .cont, z => exact z.elim
end
end Own

set_option Elab.async false
set_option maxRecDepth 100000
/-! for k, x in enumerate(t), t a tuple -/
namespace Own
open PySem PySem.Spec PyProof.Rows L2
open AutoSeq1 (wpAny_loadPart')

set_option maxHeartbeats 1000000 in
theorem enum_made {t : Addr} {items : Array Value} : Meets (Builtin.«enumerate.__new__» ⟨[.type "enumerate", .ref t], []⟩) (fun _ R s => s.heap.IsTuple t items ∧
    R (.ok (.ret (.ref (s.heap.push { cls := .type "tuple_iterator", data := .fields #[.ref t, .int 0 0] }).objs.size)))
      { s with heap := (s.heap.push { cls := .type "tuple_iterator", data := .fields #[.ref t, .int 0 0] }).push { cls := .type "enumerate", data := .fields #[.none, .bool false, .ref s.heap.objs.size, rawInt 0, .none, .none] } }) := by
  refine .of_wp fun prog w A R s h => ?_
  obtain ⟨hp, g, d, tk, os⟩ := s
  obtain ⟨ht, h⟩ := h
  have hsub := sub_enumerate
  have go : ∀ {A' : Around} {E : Value → Shared → Prop} {Q : Value → Shared → Prop}, Q (.ref hp.objs.size) ⟨hp.push { cls := .type "tuple_iterator", data := .fields #[.ref t, .int 0 0] }, g, d, tk, os⟩ → wpAny (model prog w) A' (pyIter (.ref t)) Q E ⟨hp, g, d, tk, os⟩ :=
    fun {A' E Q} q => (begins_tuple t items).iter prog w A' E ⟨hp, g, d, tk, os⟩ Q ht q
  wp_walk using go
  refine wpAny_stack_any fun st => wpAny_pure ?_
  split
  · rename_i c _ _ _ _ _
    cases (c == Value.type "enumerate") <;> (wp_walk using go; exact ⟨_, rfl, h⟩)
  · wp_walk using go
    exact ⟨_, rfl, h⟩
theorem call_enumT {P : Program} {w : World} {A : Around} {E : Value → Shared → Prop} {s : Shared} {t : Addr} {items : Array Value} {Q : Value → Shared → Prop} (ht : s.heap.IsTuple t items)
    (h : ∀ h', IsEnum h' (s.heap.objs.size + 1) s.heap.objs.size 0 .none → h'.IsTupleIter s.heap.objs.size t 0 → (∀ b o, s.heap.get? b = some o → h'.get? b = some o) → Q (.ref (s.heap.objs.size + 1)) { s with heap := h' }) :
    wpAny (model P w) A (call (.type "enumerate") [.ref t]) Q E s := by
  refine callType_new F.called_enumerate (by decide) (F.typeCall_enumerate_1 _) (F.newCall_enumerate_1 _) (fun obj => F.args_object_init_2 obj _) F.entry_enumerate_new (enum_made (items := items)) ⟨ht, ?_⟩
  let itO : Obj := { cls := .type "tuple_iterator", data := .fields #[.ref t, .int 0 0] }
  let enO : Obj := { cls := .type "enumerate", data := .fields #[.none, .bool false, .ref s.heap.objs.size, rawInt 0, .none, .none] }
  have z : (s.heap.push itO).objs.size = s.heap.objs.size + 1 := Heap.size_push ..
  have e : ((s.heap.push itO).push enO).get? (s.heap.objs.size + 1) = some enO := z ▸ Heap.get?_push_size (s.heap.push itO) (o := enO) rfl
  show (∃ o, ((s.heap.push itO).push enO).get? (s.heap.push itO).objs.size = some o ∧ o.cls = .type "enumerate") ∧ Q (.ref (s.heap.push itO).objs.size) _
  rw [z]
  exact ⟨⟨_, e, rfl⟩, h _ e ⟨itO, Heap.get?_push_of_some _ (Heap.get?_push_size _ rfl), rfl, rfl⟩ fun b o x => Heap.get?_push_of_some _ (Heap.get?_push_of_some _ x)⟩
/-- the tuple at a, each item in a new pair -/
def IteT (K : PySem.W.Frag) (a : Addr) : It :=
  ⟨fun i H => ∃ (xs : List V) (x : V), SqT K H a xs ∧ xs[i]? = some x, fun i H v H' => ∃ T x, v = .ref T ∧ H T = none ∧ H' = upd H T (.tup [.int (i : Nat), x]) ∧ ∀ xs, SqT K H a xs → xs[i]? = some x, fun i H => ∃ xs : List V, SqT K H a xs ∧ xs.length = i⟩
theorem turn_enumT {P : Program} {w : World} {K : PySem.W.Frag} {elts : List Expr} {kk : Nat} {tpos : Pos} (a e it : Addr) :
    Turn P w K (.Tuple elts kk tpos) (IteT K a) [e, it] e (fun i h => (∃ old, IsEnum h e it ((i : Nat) : Int) old) ∧ h.IsTupleIter it a i ∧ e ≠ it ∧ a ≠ it ∧ a ≠ e) where
  mem := List.mem_cons_self
  obj := by
    rintro i h ⟨⟨old, he⟩, ⟨o, ho, _, hd⟩, _⟩ b hb
    rcases List.mem_cons.mp hb with rfl | hb
    · exact ⟨_, he, fun v q => by cases q⟩
    · rw [List.mem_singleton.mp hb]
      exact ⟨o, ho, fun v q => by rw [hd] at q; cases q⟩
  keep := by
    rintro i h h' ⟨⟨old, he⟩, hi, r⟩ k
    exact ⟨⟨old, k e (by simp) _ he⟩, hi.at fun o q => k it (by simp) o q, r⟩
  item := by
    intro X hP hw hK hc i pins s σ H E I hf st hg
    subst hP hw hK
    obtain ⟨⟨old, he⟩, hit, n1, n2, n3⟩ := st
    obtain ⟨xs, x, hq, hx⟩ := hg
    obtain ⟨its, rv, p, _⟩ := I.tuple hq
    obtain ⟨u, hu, ru⟩ := rv.get hx
    have li : i < its.toArray.size := by
      have z := (List.getElem?_eq_some_iff.mp hu).1
      simpa using z
    have lte : e < s.heap.objs.size := Heap.lt_size he
    have lti : it < s.heap.objs.size := let ⟨_, q, _⟩ := hit; Heap.lt_size q
    refine wpAny_pyNext_enum_itemD (Draws.tuple (A := X.A.in1) (I.ok.hd hc) it a n2 its.toArray) he ⟨hit, p⟩ li n1 (fun z => by
      rcases List.mem_cons.mp z with z | z
      · exact n1 z
      · exact n3 (List.mem_singleton.mp z).symm) fun y h' tk hy ho st' hT hsz hk => ?_
    have ey : y = u := by
      have z : its[i]? = some y := by simpa using hy
      rw [hu] at z
      exact (Option.some.inj z).symm
    subst ey
    refine ⟨_, rfl, wpAny_letOwnedTupleGo_enum (s := { s with heap := h', toks := tk + 1 }) ho fun h'' he' sb => ?_⟩
    have T2 : h''.get? s.heap.objs.size = some { cls := .type "tuple", data := .seq #[.int i tk, y] } := (sb.2 _ (Nat.ne_of_gt lte)).trans hT
    have ok : ObjOk X.prog X.w (upd H s.heap.objs.size (.tup [.int (i : Nat), x])) h'' s.heap.objs.size (.tup [.int (i : Nat), x]) := ⟨by show 2 ≤ sizeLine; decide, [.int i tk, y], .cons ⟨_, rfl⟩ (.cons ru .nil), ⟨_, T2, rfl, _, rfl⟩⟩
    have I1 : Inv X pins σ (upd H s.heap.objs.size (.tup [.int (i : Nat), x])) { s with heap := h'', toks := tk + 1 } :=
      I.turnedNew (ch := [e, it]) (fun b ob hb q => (sb.2 b fun z => hb (by simp [z])).trans (hk b ob (fun z => hb (by simp [z])) (fun z => hb (by simp [z])) q)) hf (Nat.le_refl _) ok
    refine ⟨.ref s.heap.objs.size, _, I1, rfl, ⟨_, x, rfl, I.hok.fresh (Nat.le_refl _), rfl, fun ys hy => ?_⟩, ⟨⟨y, ?_⟩, st'.1.at fun o q => (sb.2 it (Ne.symm n1)).trans q, n1, n2, n3⟩, fun b hb => ?_⟩
    · rw [I.tuple_inj hy hq]
      exact hx
    · rw [show ((i + 1 : Nat) : Int) = (i : Int) + 1 from by omega]
      exact he'
    · have lb : b < s.heap.objs.size := by
        rcases List.mem_cons.mp hb with rfl | hb
        · exact lte
        · rw [List.mem_singleton.mp hb]; exact lti
      rw [upd_ne (Nat.ne_of_lt lb)]
      exact (hf b hb).1
  done := by
    intro X hP hw hK hc i pins s σ H E I hf st hg
    subst hP hw hK
    obtain ⟨⟨old, he⟩, hit, n1, n2, n3⟩ := st
    obtain ⟨xs, hq, rfl⟩ := hg
    obtain ⟨its, rv, p, _⟩ := I.tuple hq
    have ls : its.toArray.size = xs.length := by rw [List.size_toArray, ← rv.length]
    have st2 : s.heap.IsTupleIter it a its.toArray.size ∧ s.heap.IsTuple a its.toArray := by rw [ls]; exact ⟨hit, p⟩
    obtain ⟨f0, f1, f2, f3, f4, f5⟩ := hf it (by simp)
    exact wpAny_pyNext_enum_endD (Draws.tuple (A := X.A.in1) (I.ok.hd hc) it a n2 its.toArray) he st2 fun h' eb => ⟨rfl, I.turned (t' := s.toks) (fun b o hb q => eb b o hb q) f0 f1 f3 f4 f5⟩
  self := by
    rintro A i s Q E ⟨⟨_, he⟩, _⟩ h
    exact wpAny_pyIter_enum he h
def iEnumT (K : PySem.W.Frag) (ta : TA) : TI := fun σ H R => ta σ H fun vs H1 => ∃ a xs, vs = [.ref a] ∧ SqT K H1 a xs ∧ R (IteT K a) H1
theorem pi_enumT {X : Cx} {e : Expr} {ta : TA} {p pos tpos : Pos} {elts : List Expr} {kk : Nat} (hg : Gl X "enumerate") (hm : X.mg "enumerate" = none) (ha : PA X [e] ta) (hs : starEach [e] X.env = [(false, eval e X.env)] := by rfl) :
    PI X (.Tuple elts kk tpos) (.Call (.Name "enumerate" p) [e] [] pos) (iEnumT X.K ta) := by
  constructor
  intro pins s σ H R I h
  refine Call_ (ld_blt I hg hm boot_enumerate (PyProof.Rows.callWith_type1 (thn (ha.run pos pins s σ H _ I h) fun us s1 ⟨vs, H1, I1, r1, a, xs, ex, hq, q⟩ => ?_) hs rfl))
  subst ex
  obtain ⟨u, rfl, ru⟩ : ∃ u, us = [u] ∧ RelV (.ref a) u := by
    cases r1 with
    | cons x y => cases y; exact ⟨_, rfl, x⟩
  obtain rfl : u = Value.ref a := ru
  obtain ⟨its, rv, pt, _⟩ := I1.tuple hq
  have lt : a < s1.heap.objs.size := let ⟨o, ho, _⟩ := pt; Heap.lt_size ho
  refine call_enumT pt fun h' he hit hk => wpAny_pyIter_enum he ?_
  refine ⟨s1.heap.objs.size + 1, [s1.heap.objs.size + 1, s1.heap.objs.size], _, _, H1, rfl, I1.kept (t' := s1.toks) hk, turn_enumT a (s1.heap.objs.size + 1) s1.heap.objs.size, ⟨⟨.none, he⟩, hit, Nat.succ_ne_self _, Nat.ne_of_lt lt, Nat.ne_of_lt (Nat.lt_succ_of_lt lt)⟩, fun b hb => ?_, q⟩
  have le : s1.heap.objs.size ≤ b := by
    rcases List.mem_cons.mp hb with rfl | hb
    · exact Nat.le_succ _
    · rw [List.mem_singleton.mp hb]; exact Nat.le_refl _
  exact I1.fpOk le (I1.hok.fresh le)
section
variable {K : PySem.W.Frag} {a b : Addr} {xs ys : List V}
theorem walk_enumT : Walk (IteT K a) xs.length (fun H => SqT K H a xs) (YPair (fun i => some (.int (i : Nat))) (fun i => xs[i]?)) :=
  ⟨fun i H h q => ⟨xs, xs[i], q, List.getElem?_eq_getElem h⟩, fun H q => ⟨xs, q, rfl⟩, fun i H x H' _ q ⟨T, y, e1, e2, e3, e4⟩ => ⟨T, _, y, e1, e2, e3, rfl, e4 xs q⟩⟩
end
/-- s * n, s a text -/
def rRepS : R2 := fun x y H Q => ∃ (z : Str) (n : Int), x = .str z ∧ y = .int n ∧ z.length ≤ 1000 ∧ n ≤ 1000 ∧ -1000 ≤ n ∧ Q (.str (Txt.mul z n)) H
theorem op_repS {X : Cx} : OpR X (binaryOp .Mult) rRepS := by
  intro pins s σ H x y v u Q I rx ry h
  obtain ⟨z, n, rfl, rfl, hz, hn, hn0, q⟩ := h
  obtain ⟨t, rfl⟩ := rx
  obtain ⟨t', rfl⟩ := ry
  have ok : MulOk z n := by
    refine ⟨?_, fun h1 _ => ?_, fun h1 _ => ?_⟩
    · rw [Bool.or_eq_false_iff]
      exact ⟨decide_eq_false (by omega), decide_eq_false (by omega)⟩
    · have h2 : (1000 : Int) ≤ (2 ^ 63 - 1) / n := by
        refine (Int.le_ediv_iff_mul_le (by omega)).mpr ?_
        omega
      omega
    · show decide (z.length * n.toNat > sizeLine) = false
      have h3 : z.length * n.toNat ≤ 1000 * 1000 := Nat.mul_le_mul hz (by omega)
      refine decide_eq_false ?_
      rw [sizeLine_eq]
      omega
  exact SB.mul ok fun t2 k => ⟨.str _, H, I.tok _, ⟨_, rfl⟩, q⟩
end Own

set_option Elab.async false
set_option maxRecDepth 100000
/-! set(d), d a dict whose keys are ints -/
namespace Own
open PySem PySem.Spec PyProof.Rows L2

/-- the entries of a dict of ints -/
def IntEntries (es : Array DictEntry) (ns : List Int) : Prop := es.size = ns.length ∧ ∀ (i : Nat) (e : DictEntry), es[i]? = some e → ∃ k t, ns[i]? = some k ∧ e.key = Value.int k t ∧ e.hash = hashInt k

theorem laid_nil (mask f mv : Nat) (l p : Bool) : SetTable.laid mask f mv l p #[] = some ({ mask, place := #[], dummies := #[], finger := f, led := l, moves := mv, plain := p }, #[]) := by
  have e : ∀ j : Nat, j < mask + 1 → ((Array.replicate (mask + 1) (none : Option Nat))[j]?).getD none = none := by
    intro j hj
    simp [hj]
  unfold SetTable.laid SetTable.layClean
  simpa using e
theorem fits_nil (mask f mv : Nat) (l p : Bool) : SetTable.fits { mask, place := #[], dummies := #[], finger := f, led := l, moves := mv, plain := p } 0 = true := by
  unfold SetTable.fits
  simp [SetTable.fill]
theorem relay_sizes : ∀ m : Nat, m < 128 → ¬ SetTable.sizeAbove (m * 2) > sizeLine := by
  have z : ∀ m : Nat, m < 128 → SetTable.sizeAbove (m * 2) ≤ 512 := by decide +kernel
  intro m hm h
  rw [sizeLine_eq] at h
  have := z m hm
  omega

section
variable {P : Program} {w : World} {A : Around} {E : Value → Shared → Prop} {s : Shared}
abbrev setO0 (w : World) : Obj := { cls := .type "set", dict := none, data := .set #[] 0 (.fresh 0 0 (!w.params.followText "set-order")) }
theorem room_for {S : Addr} {m : Nat} {Q : Unit → Shared → Prop} (hm : m < 128) (hS : s.heap.get? S = some (setO0 w))
    (h : ∀ h', Heap.SameBut S s.heap h' → SetR w h' S (fun _ => false) 0 → Q () { s with heap := h' }) :
    wpAny (model P w) A (match (SetTable.fresh 0 0 (!w.params.followText "set-order")).roomFor m with | some wanted => setRelay S wanted | _ => pure ()) Q E s := by
  have fit : (SetTable.fresh 0 0 (!w.params.followText "set-order")).fits (#[] : Array (Int × Value)).size = true := fits_nil _ _ _ _ _
  have R0 := setR_new_at (w := w) (ns := []) hS
  have led : w.params.followText "set-order" = true ∨ (!w.params.followText "set-order") = true := by
    cases w.params.followText "set-order" <;> simp
  unfold SetTable.roomFor
  split
  · rename_i wanted hw
    split at hw
    · have hw2 : wanted = m * 2 := by
        have z := Option.some.inj hw
        rw [← z]
        show (0 + m) * 2 = m * 2
        omega
      subst hw2
      unfold setRelay
      refine wpAny_bind (wpAny_setState_of hS rfl fit ?_)
      dsimp only
      rw [if_neg (relay_sizes m hm)]
      unfold SetTable.relaid
      rw [show (Array.map (fun x => x.fst) (#[] : Array (Int × Value))) = #[] from by simp, laid_nil]
      refine wpAny_bind (wpAny_pure ?_)
      show wpAny _ _ (storeSet S #[] { mask := SetTable.sizeAbove (m * 2) - 1, place := #[], dummies := #[], finger := 0, led := !w.params.followText "set-order", moves := (SetTable.fresh 0 0 (!w.params.followText "set-order")).movedTo (SetTable.sizeAbove (m * 2) - 1), plain := true }) _ _ _
      refine wpAny_storeSet_of hS rfl ?_ (fits_of_scanBound (by decide))
      refine h _ (Heap.SameBut.update s.heap S _) ?_
      have ho := store_at (es' := #[]) (t' := { mask := SetTable.sizeAbove (m * 2) - 1, place := #[], dummies := #[], finger := 0, led := !w.params.followText "set-order", moves := (SetTable.fresh 0 0 (!w.params.followText "set-order")).movedTo (SetTable.sizeAbove (m * 2) - 1), plain := true }) hS rfl
      exact ⟨_, #[], _, _, ho, ⟨rfl, rfl, rfl⟩, rfl, fun e he => by simp at he, by simp, fun k => by simp, by decide, fits_nil _ _ _ _ _, rfl, .nil, led⟩
    · cases hw
  · refine wpAny_pure ?_
    have z := h s.heap (Heap.SameBut.refl S s.heap) (R0.congr fun k => by simp)
    exact z
theorem upd_dict {S d : Addr} {o : Obj} {es : Array DictEntry} {ep : Nat} {ns : List Int} {Q : Unit → Shared → Prop} (ho : s.heap.get? d = some o) (hex : o.ExactDict) (hd : o.data = .dict es ep) (hne : d ≠ S)
    (hsys : (d == sysModules) = false) (ie : IntEntries es ns) (hl : ns.length < 128) (hS : s.heap.get? S = some (setO0 w))
    (h : ∀ h' tk c, SetR w h' S (fun j => decide (j ∈ ns)) c → c ≤ ns.length → Heap.SameBut S s.heap h' → Q () { s with heap := h', toks := tk }) :
    wpAny (model P w) A (Builtin.Frozenset.updateFrom "set.__init__" S (.ref d)) Q E s := by
  have f1 := F.sub_dict_set
  have f2 := F.sub_dict_frozenset
  obtain ⟨ocls, odict, odata, oslots⟩ := o
  obtain ⟨e1, e2, e3⟩ := hex
  simp only at e1 e2 e3 hd
  subst e1 e2 e3 hd
  have hb : ns.length < scanBound := by
    have : scanBound = 4096 := rfl
    omega
  unfold Builtin.Frozenset.updateFrom
  wp_walk
  refine room_for (by rw [ie.1]; exact hl) hS fun h1 sb1 R1 => ?_
  have hg : ∀ {h2 : Heap}, Heap.SameBut S s.heap h2 → h2.get? d = some { cls := .type "dict", dict := none, data := .dict es ep, slots := #[] } := fun sb => (sb.2 d hne).trans ho
  refine wpAny_bind (wpAny_dictEntries (hg sb1) rfl (wpAny_bind ?_))
  refine PySem.SeqAt.wpAny_forIn_span 0 es.size _ (fun i _ s' => ∃ h' tk c, s' = { s with heap := h', toks := tk } ∧ c ≤ i ∧ i ≤ es.size ∧ Heap.SameBut S s.heap h' ∧ SetR w h' S (fun j => decide (j ∈ ns.take i)) c) _ ?_ ?_ _
    ⟨h1, _, 0, rfl, Nat.le_refl _, Nat.zero_le _, sb1, R1.congr fun k => by simp⟩
  · rintro i _ s' _ hi ⟨h', tk, c, rfl, hc, _, sb, R⟩
    refine wpAny_bind (wpAny_dictEntries (hg sb) rfl ?_)
    have he : es[i]? = some es[i] := Array.getElem?_eq_getElem hi
    obtain ⟨k, t, hk, ek, eh⟩ := ie.2 i _ he
    rw [he]
    dsimp only
    refine wpAny_bind (wpAny_holding ?_)
    rw [ek, eh]
    have hlt : c + 1 < scanBound := by
      have : scanBound = 4096 := rfl
      have := ie.1
      omega
    refine setR_add_hashed (s := { s with heap := h', toks := tk }) R hlt fun h2 sb2 R2 => ?_
    refine wpAny_bind (wpAny_dictEpoch (hg (sb.trans sb2)) rfl ?_)
    rw [if_neg (by simp)]
    refine wpAny_pure ?_
    have hc3 : (if decide (k ∈ ns.take i) = true then c else c + 1) ≤ i + 1 := by
      split <;> omega
    refine ⟨h2, tk, _, rfl, hc3, hi, sb.trans sb2, R2.congr fun j => ?_⟩
    rw [List.take_add_one, hk]
    simp [List.mem_append]
  · rintro _ s' ⟨h', tk, c, rfl, hc, _, sb, R⟩
    rw [Nat.zero_max] at hc R
    refine wpAny_pure (h h' tk c (R.congr fun j => ?_) (by rw [← ie.1]; exact hc) sb)
    rw [List.take_of_length_le (by rw [ie.1]; exact Nat.le_refl _)]

set_option maxHeartbeats 3200000 in
theorem call_set_dict {d : Addr} {o : Obj} {es : Array DictEntry} {ep : Nat} {ns : List Int} {Q : Value → Shared → Prop} (ho : s.heap.get? d = some o) (hex : o.ExactDict) (hd : o.data = .dict es ep)
    (hsys : (d == sysModules) = false) (ie : IntEntries es ns) (hl : ns.length < 128)
    (h : ∀ h' tk c, SetR w h' s.heap.objs.size (fun j => decide (j ∈ ns)) c → c ≤ ns.length → (∀ b o, s.heap.get? b = some o → h'.get? b = some o) → Q (.ref s.heap.objs.size) { s with heap := h', toks := tk }) :
    wpAny (model P w) A (call (.type "set") [.ref d]) Q E s := by
  let n0 := s.heap.objs.size
  let hp0 := s.heap.push (setO0 w)
  have hnew : hp0.get? n0 = some (setO0 w) := Heap.get?_push_size _ rfl
  have hold : ∀ b o, s.heap.get? b = some o → hp0.get? b = some o := fun b o e => Heap.get?_push_of_some _ e
  have hne : d ≠ n0 := Nat.ne_of_lt (Heap.lt_size ho)
  have ty0 : Shared.TypeIs { s with heap := hp0 } (.ref n0) "set" := ⟨_, hnew, rfl⟩
  obtain ⟨c, tl, hmro⟩ := F.called_set.mro
  have m1 := F.called_set.made
  have m2 := F.called_set.sub
  have m3 := F.called_set.notType
  have m4 := F.called_set.canCreate
  have m5 := F.typeCall_set_1 (.ref d)
  have m6 := F.called_set.init.lookup
  have m7 := F.called_set.init.bind (.ref n0)
  refine wpAny_call (codeAny_of_tree ?_)
  show wpAny _ _ (callAny (.type "set") _) _ _ _
  refine wpAny_pure ⟨Code.quiet_builtin _ (by decide +kernel), codeAny_builtin F.entry_type_call ?_⟩
  rw [Around.under_plain (weight_type_call_type "set" [.ref d] []) rfl]
  repeat (any_goals (first | assumption | wp_step))
  refine codeAny_mono (code_set_led1 (.ref d) (E := E) (Q₁ := fun r s1 => r = .ref n0 ∧ s1 = { s with heap := hp0 }) ⟨rfl, rfl⟩) fun r s1 hr => ?_
  match r, hr with
  | .error e, hr => exact hr
  | .ok .next, hr => exact hr.elim
  | .ok .brk, hr => exact hr.elim
  | .ok .cont, hr => exact hr.elim
  | .ok (.ret u), hr =>
    obtain ⟨rfl, rfl⟩ := hr
    repeat (any_goals (first | assumption | wp_step))
    refine codeAny_mono (codeAny_call_builtin (R := wants (fun r s2 => r = .none ∧ ∃ h' tk c, s2 = { s with heap := h', toks := tk } ∧ SetR w h' n0 (fun j => decide (j ∈ ns)) c ∧ c ≤ ns.length ∧ Heap.SameBut n0 hp0 h') E)
      F.called_set.init.plain F.entry_set_init (check_set_init_1 ty0 ?_)) fun r2 s2 hr2 => ?_
    · unfold Builtin.«set.__init__» noKeywords
      generalize hU : Builtin.Frozenset.updateFrom = U
      wp_walk
      subst hU
      refine upd_dict (s := { s with heap := hp0 }) (hold _ _ ho) hex hd hne hsys ie hl hnew fun h' tk c R hc sb => ?_
      exact wpAny_pure ⟨rfl, h', tk, c, rfl, R, hc, sb⟩
    · match r2, hr2 with
      | .error e, hr2 => exact hr2
      | .ok .next, hr2 => exact hr2.elim
      | .ok .brk, hr2 => exact hr2.elim
      | .ok .cont, hr2 => exact hr2.elim
      | .ok (.ret u), hr2 =>
        obtain ⟨rfl, h', tk, c, rfl, hR, hc, sb⟩ := hr2
        repeat (any_goals (first | assumption | wp_step))
        exact h _ _ _ hR hc fun b o e => (sb.2 b (Nat.ne_of_lt (Heap.lt_size e))).trans (hold b o e)
end
section
variable {X : Cx}
theorem intEntries_of {P : Program} {w : World} : ∀ {es : List DictEntry} {vs : List (Key × Value)} {ns : List Int}, Pairs (mixKind P w) es vs → (∀ e ∈ es, ∃ k, (mixKind P w).is k e.key = true ∧ e.hash = (mixKind P w).hash k) →
    vs.map (·.1) = ns.map Sum.inl → IntEntries es.toArray ns
  | [], [], [], _, _, _ => ⟨rfl, fun i e h => by simp at h⟩
  | [], [], _ :: _, _, _, h => by simp at h
  | e :: es, kv :: vs, [], _, _, h => by simp at h
  | e :: es, kv :: vs, n :: ns, .cons hk _ r, hh, h => by
    rw [List.map_cons, List.map_cons] at h
    obtain ⟨h1, h2⟩ := List.cons.inj h
    obtain ⟨z1, z2⟩ := intEntries_of r (fun e he => hh e (List.mem_cons_of_mem _ he)) h2
    refine ⟨by simp only [List.size_toArray, List.length_cons] at z1 ⊢; omega, fun i x hx => ?_⟩
    cases i with
    | zero =>
      have ex : e = x := by simpa using hx
      subst ex
      obtain ⟨k, hk2, hh2⟩ := hh e (List.mem_cons_self ..)
      have ek : k = kv.1 := (mixKind P w).inj _ _ _ hk2 hk
      rw [ek, h1] at hh2
      rw [h1] at hk
      have hk' : keyIs (Sum.inl n) e.key = true := hk
      rcases keyIs_shape hk' with ⟨i, t, e1, e2⟩ | ⟨x, t, e1, _⟩
      · obtain rfl := Sum.inl.inj e1
        exact ⟨n, t, rfl, e2, hh2⟩
      · cases e1
    | succ i =>
      have hx' : es.toArray[i]? = some x := by simpa using hx
      obtain ⟨k, t, a, b, c⟩ := z2 i x hx'
      exact ⟨k, t, by simpa using a, b, c⟩
theorem kv_keys : ∀ {kvs : List (Key × V)} {vs : List (Key × Value)}, KV kvs vs → kvs.map (·.1) = vs.map (·.1)
  | _, _, .nil => rfl
  | _, _, .cons a r => by
    rw [List.map_cons, List.map_cons, a.1, kv_keys r]
/-- set(d) -/
def rSetD (w : World) : List V → Hp → VK → Prop := fun xs H Q => ∃ (d : Addr) (kvs : List (Key × V)) (ns : List Int), xs = [.ref d] ∧ H d = some (.dK kvs) ∧ kvs.map (·.1) = ns.map Sum.inl ∧ ns.length < 128 ∧
  ∀ p c, H p = none → c ≤ ns.length → Q (.ref p) (upd H p (SetO w p (fun j => decide (j ∈ ns)) c))
theorem call_setD : CallR X (.type "set") (rSetD X.w) := by
  intro pins s σ H xs us Q I r h
  obtain ⟨d, kvs, ns, rfl, hd, hk, hl, q⟩ := h
  obtain ⟨u, rfl, ru⟩ := r.one
  obtain rfl : u = Value.ref d := ru
  obtain ⟨_, hsys, vs, kv, o, es, ep, ho, hex, hdat, hks, hps, _⟩ := I.hok d _ hd
  have e1 : vs.map (·.1) = ns.map Sum.inl := by
    rw [← hk]
    exact (kv_keys kv).symm
  have ie : IntEntries es ns := by
    have z := intEntries_of (es := es.toList) (by exact hps) (fun e he => hks e (by simpa using he)) e1
    simpa using z
  refine call_set_dict ho hex hdat hsys ie hl fun h' tk c R hc keep => ?_
  exact ⟨.ref _, _, I.laid (t' := tk) keep (Nat.le_refl _) (setO_new R), rfl, q _ c (I.hok.fresh (Nat.le_refl _)) hc⟩
end
end Own

set_option Elab.async false
set_option maxRecDepth 100000
/-! set(xs), xs a list or a tuple of texts -/
namespace Own
open PySem PySem.Spec PyProof.Rows L2

/-- how many are met, and whether each for the first time -/
def Cnt (zs : List Str) (c : Nat) : Prop := c ≤ zs.length ∧ (c = zs.length ↔ zs.Nodup)
theorem cnt_nil : Cnt [] 0 := ⟨Nat.le_refl _, by simp⟩
theorem cnt_step {zs : List Str} {z : Str} {c : Nat} (h : Cnt zs c) : Cnt (zs ++ [z]) (if decide (z ∈ zs) = true then c else c + 1) := by
  obtain ⟨h1, h2⟩ := h
  by_cases hz : z ∈ zs
  · rw [if_pos (decide_eq_true hz)]
    refine ⟨by simp; omega, ?_⟩
    rw [List.nodup_append]
    constructor
    · intro e
      simp at e
      omega
    · rintro ⟨_, _, n⟩
      exact absurd rfl (n z hz z (List.mem_singleton.mpr rfl))
  · rw [if_neg (by simpa using hz)]
    refine ⟨by simp; omega, ?_⟩
    rw [List.nodup_append]
    constructor
    · intro e
      refine ⟨h2.mp (by simpa using e), by simp, fun a ha b hb e2 => ?_⟩
      rw [List.mem_singleton.mp hb] at e2
      exact hz (e2 ▸ ha)
    · rintro ⟨n, _, _⟩
      have := h2.mpr n
      simp
      omega
def TxtIn (zs : List Str) : Key → Bool := fun k => match k with | Sum.inl _ => false | Sum.inr z => decide (z ∈ zs)
theorem txtIn_snoc {zs : List Str} {z : Str} : (fun k => TxtIn zs k || decide (k = (Sum.inr z : Key))) = TxtIn (zs ++ [z]) := by
  funext k
  cases k with
  | inl i => simp [TxtIn]
  | inr y => simp [TxtIn, List.mem_append]

section
variable {P : Program} {w : World} {A : Around} {R : Result → Shared → Prop} {it : Addr} {fp wr : List Addr} {G : Array GenState → Array GenState → Prop} {n : Nat} {Pv : Nat → Value → Prop} {St : Nat → Shared → Prop} {zs : List Str}
theorem txt_step {i : Nat} {z : Str} {c : Nat} {h h' : Heap} {S : Addr} (hz : zs[i]? = some z) (hs : h'.SetOf (mixKind P w) S (fun k => TxtIn (zs.take i) k || decide (k = Sum.inr z)) (if TxtIn (zs.take i) (Sum.inr z) = true then c else c + 1)) :
    h'.SetOf (mixKind P w) S (TxtIn (zs.take (i + 1))) (if decide (z ∈ zs.take i) = true then c else c + 1) := by
  rw [List.take_add_one, hz]
  rw [txtIn_snoc] at hs
  exact hs
theorem txt_loop (W : WalksS P w A.in1 it fp wr G n Pv St) (S : Addr) (nS : S ∉ fp) (hn : zs.length = n) (room : n + 1 < scanBound) (val : ∀ i v, Pv i v → ∃ z t, zs[i]? = some z ∧ v = Value.str z t)
    :
    ∀ (left i c : Nat) (s : Shared), n - i = left → i ≤ n → St i s → Cnt (zs.take i) c → s.heap.SetOf (mixKind P w) S (TxtIn (zs.take i)) c →
      (∀ s' c', Moved (S :: wr) G s s' → Cnt zs c' → s'.heap.SetOf (mixKind P w) S (TxtIn zs) c' → R (.ok (.ret .none)) s') →
      codeAny (model P w) A (.builtin "set.update.loop" ⟨[.ref S, .ref it], []⟩) R s := by
  have mw : ∀ b ∈ wr, b ∈ S :: wr := fun b hb => List.mem_cons_of_mem _ hb
  have nw : S ∉ wr := fun z => nS (W.sub _ z)
  have stay : ∀ {s s' : Shared} {p : Key → Bool} {c : Nat}, Moved wr G s s' → s.heap.SetOf (mixKind P w) S p c → s'.heap.SetOf (mixKind P w) S p c := fun m q => setOf_at q fun o e => m.heap S o nw e
  intro left
  induction left with
  | zero =>
    intro i c s hk hi st hc hS k
    obtain rfl : i = n := by omega
    rw [List.take_of_length_le (by omega)] at hc hS
    refine codeAny_builtin F.entry_set_update_loop ?_
    rw [Around.under_plainId F.plain_set_update_loop _]
    refine wpAny_bind (m := pyNext (.ref it)) (W.done s _ _ st fun s' m => ?_)
    exact wpAny_pure (k s' c (m.mono mw) hc (stay m hS))
  | succ left ih =>
    intro i c s hk hi st hc hS k
    refine codeAny_builtin F.entry_set_update_loop ?_
    rw [Around.under_plainId F.plain_set_update_loop _]
    refine wpAny_bind (m := pyNext (.ref it)) (W.item i s _ _ (by omega) st fun v s' hv st' m => ?_)
    obtain ⟨z, t, hz, rfl⟩ := val i v hv
    have hS1 := stay m hS
    refine wpAny_bind (m := holding [Value.str z t] (setAdd S (.str z t))) (wpAny_holding ?_)
    unfold setAdd
    refine wpAny_holding (wpAny_bind ((mixKind P w).pyHash (k := Sum.inr z) (kV_is (k := Sum.inr z) ⟨t, rfl⟩) ?_))
    refine wpAny_setAddHashed_of (knd := mixKind P w) (s := { s' with toks := s'.toks + 1 }) (kV_is (k := Sum.inr z) ⟨t, rfl⟩) rfl hS1 (by have := hc.1; rw [List.length_take] at this; omega) fun h' sb hS2 => ?_
    have hS3 := txt_step (h := s'.heap) hz hS2
    have hc3 : Cnt (zs.take (i + 1)) (if decide (z ∈ zs.take i) = true then c else c + 1) := by
      rw [List.take_add_one, hz]
      exact cnt_step hc
    have off : ∀ b ∈ fp, b ≠ S := fun b hb e => nS (e ▸ hb)
    refine wpAny_pure ⟨plainId_quiet F.plain_set_update_loop _, ih (i + 1) _ _ (by omega) (by omega) (W.frame _ s' _ _ st' (Nat.le_succ _) fun b hb o e => (sb.2 b (off b hb)).trans e) hc3 hS3 fun s2 c2 m2 hc2 hS4 => ?_⟩
    refine k s2 c2 (Moved.trans W.gtrans ((m.mono mw).then_heap (Nat.le_succ _) fun b o hb e => ?_) m2) hc2 hS4
    exact (sb.2 b fun e2 => hb (e2 ▸ List.mem_cons_self)).trans e
end

section
open PySem.W
variable {P : Program} {w : World} {A : Around} {E : Value → Shared → Prop} {s : Shared} {zs : List Str} {l : Addr} {items : Array Value}
theorem txt_vals {its : List Value} (h : Vals (zs.map V.str) its) (i : Nat) (v : Value) (hv : its.toArray[i]? = some v) : ∃ z t, zs[i]? = some z ∧ v = Value.str z t := by
  have hv' : its[i]? = some v := by simpa using hv
  have li : i < zs.length := by
    have := (List.getElem?_eq_some_iff.mp hv').1
    rw [← h.length, List.length_map] at this
    exact this
  obtain ⟨u, hu, ru⟩ := h.get (i := i) (x := V.str zs[i]) (by rw [List.getElem?_map, List.getElem?_eq_getElem li]; rfl)
  rw [hv'] at hu
  obtain rfl := Option.some.inj hu
  obtain ⟨t, rfl⟩ := ru
  exact ⟨_, t, List.getElem?_eq_getElem li, rfl⟩
/-- set.__init__ over an iterator of texts -/
theorem txt_init {S : Addr} {ocl : String} {od : Option Addr} {nn : Nat} {osl : Array (Option Value)} (tyS : ocl = "list" ∨ ocl = "tuple") (hh : A.handled = none) (hol : s.heap.get? l = some { cls := .type ocl, dict := od, data := .seq items nn, slots := osl }) (hS : s.heap.get? S = some (setO0 w)) (ne : l ≠ S)
    (val : ∀ (i : Nat) (v : Value), items[i]? = some v → ∃ z t, zs[i]? = some z ∧ v = Value.str z t) (hn : zs.length = items.size) (room : zs.length ≤ 1000) {Q : Unit → Shared → Prop}
    (h : ∀ h' tk c, Cnt zs c → h'.SetOf (mixKind P w) S (TxtIn zs) c → (∀ b o, b ≠ S → s.heap.get? b = some o → h'.get? b = some o) → Q () { s with heap := h', toks := tk }) :
    wpAny (model P w) A (Builtin.Frozenset.updateFrom "set.__init__" S (.ref l)) Q E s := by
  have a1 := F.sub_list_set
  have a2 := F.sub_list_frozenset
  have a3 := F.sub_tuple_set
  have a4 := F.sub_tuple_frozenset
  have a5 : (Value.type "list" == Value.type "dict") = false := by decide
  have a6 : (Value.type "tuple" == Value.type "dict") = false := by decide
  have S0 : s.heap.SetOf (mixKind P w) S (TxtIn (zs.take 0)) 0 := ⟨_, #[], 0, _, hS, ⟨rfl, rfl, rfl⟩, rfl, (fun e he => by simp at he), (fun k => by cases k <;> simp [TxtIn]), (by decide), (by rfl), rfl⟩
  have lS : S < s.heap.objs.size := Heap.lt_size hS
  have ll : l < s.heap.objs.size := Heap.lt_size hol
  have sb : scanBound = 4096 := rfl
  have done : ∀ (io : Obj) (s' : Shared) (c' : Nat) (G : Array GenState → Array GenState → Prop), (∀ a b, G a b → b = a) → Moved (S :: [s.heap.objs.size]) G { s with heap := s.heap.push io } s' → Cnt zs c' → s'.heap.SetOf (mixKind P w) S (TxtIn zs) c' → Q () s' := by
    intro io s' c' G hG m hc hS'
    obtain ⟨h', g2, d', tk', os'⟩ := s'
    have e1 : g2 = s.gens := hG _ _ m.gens
    have e2 : d' = s.drawn := m.drawn
    have e3 : os' = s.os := m.os
    subst e1 e2 e3
    refine h h' tk' c' hc hS' fun b o hb e => m.heap b o (fun z => ?_) (Heap.get?_push_of_some _ e)
    rcases List.mem_cons.mp z with z | z
    · exact hb z
    · exact Nat.ne_of_lt (Heap.lt_size e) (List.mem_singleton.mp z)
  rcases tyS with rfl | rfl
  · have hl : s.heap.IsList l items := ⟨_, hol, rfl, nn, rfl⟩
    unfold Builtin.Frozenset.updateFrom
    generalize hPI : pyIter = PI
    wp_walk
    subst hPI
    refine wpAny_pyIter_list hl (wpAny_bind (wpAny_runValue ?_))
    refine txt_loop (zs := zs) ((Walks.list (A := A.in1) hh s.heap.objs.size l (Nat.ne_of_lt ll) items).toS) S (fun z => ?_) hn (by omega) val (items.size - 0) 0 0 _ rfl (Nat.zero_le _) ⟨⟨_, Heap.get?_push_size _ rfl, rfl, rfl⟩, hl.push _⟩ cnt_nil
      (setOf_at S0 fun o e => Heap.get?_push_of_some _ e) fun s' c' m hc hS' => wpAny_pure (done _ s' c' _ (fun _ _ z => z) m hc hS')
    rcases List.mem_cons.mp z with z | z
    · exact Nat.ne_of_lt lS z
    · exact ne (List.mem_singleton.mp z).symm
  · have hl : s.heap.IsTuple l items := ⟨_, hol, rfl, nn, rfl⟩
    unfold Builtin.Frozenset.updateFrom
    generalize hPI : pyIter = PI
    wp_walk
    subst hPI
    refine wpAny_pyIter_tuple hl (wpAny_bind (wpAny_runValue ?_))
    refine txt_loop (zs := zs) ((Walks.tuple (A := A.in1) hh s.heap.objs.size l (Nat.ne_of_lt ll) items).toS) S (fun z => ?_) hn (by omega) val (items.size - 0) 0 0 _ rfl (Nat.zero_le _) ⟨⟨_, Heap.get?_push_size _ rfl, rfl, rfl⟩, hl.push _⟩ cnt_nil
      (setOf_at S0 fun o e => Heap.get?_push_of_some _ e) fun s' c' m hc hS' => wpAny_pure (done _ s' c' _ (fun _ _ z => z) m hc hS')
    rcases List.mem_cons.mp z with z | z
    · exact Nat.ne_of_lt lS z
    · exact ne (List.mem_singleton.mp z).symm
set_option maxHeartbeats 3200000 in
theorem call_set_txt {ocl : String} {od : Option Addr} {nn : Nat} {osl : Array (Option Value)} (tyS : ocl = "list" ∨ ocl = "tuple") (hh : A.handled = none) (hol : s.heap.get? l = some { cls := .type ocl, dict := od, data := .seq items nn, slots := osl })
    (val : ∀ (i : Nat) (v : Value), items[i]? = some v → ∃ z t, zs[i]? = some z ∧ v = Value.str z t) (hn : zs.length = items.size) (room : zs.length ≤ 1000) {Q : Value → Shared → Prop}
    (h : ∀ h' tk c, Cnt zs c → h'.SetOf (mixKind P w) s.heap.objs.size (TxtIn zs) c → (∀ b o, s.heap.get? b = some o → h'.get? b = some o) → Q (.ref s.heap.objs.size) { s with heap := h', toks := tk }) :
    wpAny (model P w) A (call (.type "set") [.ref l]) Q E s := by
  let S := s.heap.objs.size
  let hp0 := s.heap.push (setO0 w)
  have hnew : hp0.get? S = some (setO0 w) := Heap.get?_push_size _ rfl
  have hold : ∀ b o, s.heap.get? b = some o → hp0.get? b = some o := fun b o e => Heap.get?_push_of_some _ e
  have ne : l ≠ S := Nat.ne_of_lt (Heap.lt_size hol)
  have ty0 : Shared.TypeIs { s with heap := hp0 } (.ref S) "set" := ⟨_, hnew, rfl⟩
  obtain ⟨c, tl, hmro⟩ := F.called_set.mro
  have m1 := F.called_set.made
  have m2 := F.called_set.sub
  have m3 := F.called_set.notType
  have m4 := F.called_set.canCreate
  have m5 := F.typeCall_set_1 (.ref l)
  have m6 := F.called_set.init.lookup
  have m7 := F.called_set.init.bind (.ref S)
  refine wpAny_call (codeAny_of_tree ?_)
  show wpAny _ _ (callAny (.type "set") _) _ _ _
  refine wpAny_pure ⟨Code.quiet_builtin _ (by decide +kernel), codeAny_builtin F.entry_type_call ?_⟩
  rw [Around.under_plain (weight_type_call_type "set" [.ref l] []) rfl]
  repeat (any_goals (first | assumption | wp_step))
  refine codeAny_mono (code_set_led1 (.ref l) (E := E) (Q₁ := fun r s1 => r = .ref S ∧ s1 = { s with heap := hp0 }) ⟨rfl, rfl⟩) fun r s1 hr => ?_
  match r, hr with
  | .error e, hr => exact hr
  | .ok .next, hr => exact hr.elim
  | .ok .brk, hr => exact hr.elim
  | .ok .cont, hr => exact hr.elim
  | .ok (.ret u), hr =>
    obtain ⟨rfl, rfl⟩ := hr
    repeat (any_goals (first | assumption | wp_step))
    refine codeAny_mono (codeAny_call_builtin (R := wants (fun r s2 => r = .none ∧ ∃ h' tk c, s2 = { s with heap := h', toks := tk } ∧ Cnt zs c ∧ h'.SetOf (mixKind P w) S (TxtIn zs) c ∧ ∀ b o, b ≠ S → hp0.get? b = some o → h'.get? b = some o) E)
      F.called_set.init.plain F.entry_set_init (check_set_init_1 ty0 ?_)) fun r2 s2 hr2 => ?_
    · unfold Builtin.«set.__init__» noKeywords
      generalize hU : Builtin.Frozenset.updateFrom = U
      wp_walk
      subst hU
      refine txt_init (s := { s with heap := hp0 }) (zs := zs) tyS (by simpa using hh) (hold _ _ hol) hnew ne val hn room fun h' tk c hc hS k => ?_
      exact wpAny_pure ⟨rfl, h', tk, c, rfl, hc, hS, k⟩
    · match r2, hr2 with
      | .error e, hr2 => exact hr2
      | .ok .next, hr2 => exact hr2.elim
      | .ok .brk, hr2 => exact hr2.elim
      | .ok .cont, hr2 => exact hr2.elim
      | .ok (.ret u), hr2 =>
        obtain ⟨rfl, h', tk, c, rfl, hc, hS, k⟩ := hr2
        repeat (any_goals (first | assumption | wp_step))
        exact h _ _ _ hc hS fun b o e => k b o (Nat.ne_of_lt (Heap.lt_size e)) (hold b o e)
end
section
variable {X : Cx}
/-- set(xs) -/
def rSetS (P : Program) (w : World) (K : PySem.W.Frag) : List V → Hp → VK → Prop := fun xs H Q => ∃ (a : Addr) (zs : List Str), xs = [.ref a] ∧ (SqL K H a (zs.map V.str) ∨ SqT K H a (zs.map V.str)) ∧ zs.length ≤ 1000 ∧
  ∀ p c, H p = none → Cnt zs c → Q (.ref p) (upd H p (SetK P w p (TxtIn zs) c))
theorem call_setS (hc : X.calm = true) : CallR X (.type "set") (rSetS X.prog X.w X.K) := by
  intro pins s σ H xs us Q I r h
  obtain ⟨a, zs, rfl, hs, hz, q⟩ := h
  obtain ⟨u, rfl, ru⟩ := r.one
  obtain rfl : u = Value.ref a := ru
  have fin : ∀ h' tk c, Cnt zs c → h'.SetOf (mixKind X.prog X.w) s.heap.objs.size (TxtIn zs) c → (∀ b o, s.heap.get? b = some o → h'.get? b = some o) → EP X pins σ Q (.ref s.heap.objs.size) { s with heap := h', toks := tk } := fun h' tk c hc hS keep =>
    ⟨.ref _, _, I.laid (t' := tk) keep (Nat.le_refl _) (setK_new hS), rfl, q _ c (I.hok.fresh (Nat.le_refl _)) hc⟩
  rcases hs with hs | hs
  · obtain ⟨its, rv, ⟨⟨oc, od, odt, osl⟩, n2, ho, hcl, hd, hdt⟩, _⟩ := I.list hs
    simp only at hcl hd hdt
    subst hcl hdt
    exact call_set_txt (.inl rfl) (I.ok.hd hc) ho (fun i v hv => txt_vals rv i v hv) (by rw [List.size_toArray, ← rv.length, List.length_map]) hz fin
  · obtain ⟨its, rv, ⟨⟨oc, od, odt, osl⟩, ho, hcl, n2, hdt⟩, _⟩ := I.tuple hs
    simp only at hcl hdt
    subst hcl hdt
    exact call_set_txt (.inr rfl) (I.ok.hd hc) ho (fun i v hv => txt_vals rv i v hv) (by rw [List.size_toArray, ← rv.length, List.length_map]) hz fin
/-- len(s), s such a set -/
def rLenK (P : Program) (w : World) : List V → Hp → VK → Prop := fun xs H Q => ∃ (a : Addr) (S : Key → Bool) (n : Nat), xs = [.ref a] ∧ H a = some (SetK P w a S n) ∧ Q (.int n) H
theorem call_lenK : CallR X (.builtin "len") (rLenK X.prog X.w) := by
  intro pins s σ H xs us Q I r h
  obtain ⟨a, S, n, rfl, ha, q⟩ := h
  obtain ⟨u, rfl, ru⟩ := r.one
  obtain rfl : u = Value.ref a := ru
  obtain ⟨o, es, ep, t, ho, hex, hd, _, _, hb, hf, rfl⟩ := setK_get I ha
  exact call_len_set ho hex hd hf (by have : scanBound = 4096 := rfl; omega) ⟨.int _, H, I.tok _, ⟨_, rfl⟩, q⟩
end
end Own

set_option Elab.async false
set_option maxRecDepth 100000
set_option linter.unusedVariables false
/-! steps of dicts; the deck that is a dict -/
namespace Own
open PySem PySem.Spec PyProof.Rows L2
section
variable {σ : L2.St} {H : Hp} {Q : VK} {D : Ends} {td ty tv : TE}
theorem k_dget (h : td σ H fun x H1 => ty σ H1 fun y H2 => ∃ a v, x = .ref a ∧ DGet H2 a y (some v) ∧ Q v H2) : tDGet td ty σ H Q := h
theorem k_dput (h : tv σ H fun v H1 => td σ H1 fun x H2 => ty σ H2 fun y H3 => ∃ a H4, x = .ref a ∧ DPut H3 a y v H4 ∧ D.nx σ H4) : sDPut td ty tv D σ H := h
theorem k_dg {a : Addr} {kvs : List (Key × V)} {k : Key} {v : V} {R : V → Prop} (e : H a = some (.dK kvs)) (g : valV kvs k = some v) (h : R v) : ∃ a' v', V.ref a = .ref a' ∧ DGet H a' (kV k) (some v') ∧ R v' := by
  refine ⟨a, v, rfl, ?_, h⟩
  rw [← g]
  exact DGet.k e
theorem k_dgS {a : Addr} {kvs : List (Key × V)} {z : Str} {v : V} {R : V → Prop} (e : H a = some (.dK kvs)) (g : valV kvs (Sum.inr z) = some v) (h : R v) : ∃ a' v', V.ref a = .ref a' ∧ DGet H a' (V.str z) (some v') ∧ R v' := k_dg (k := Sum.inr z) e g h
theorem k_dpS {a : Addr} {kvs : List (Key × V)} {z : Str} {v : V} {R : Hp → Prop} (e : H a = some (.dK kvs)) (l : kvs.length < 100000) (h : R (upd H a (.dK (putK kvs (Sum.inr z) v)))) : ∃ a' H4, V.ref a = .ref a' ∧ DPut H a' (V.str z) v H4 ∧ R H4 :=
  ⟨a, _, rfl, DPut.k (k := Sum.inr z) e (k_szL l), h⟩
theorem k_dp {a : Addr} {kvs : List (Key × V)} {k : Key} {v : V} {R : Hp → Prop} (e : H a = some (.dK kvs)) (l : kvs.length < 100000) (h : R (upd H a (.dK (putK kvs k v)))) : ∃ a' H4, V.ref a = .ref a' ∧ DPut H a' (kV k) v H4 ∧ R H4 :=
  ⟨a, _, rfl, DPut.k e (k_szL l), h⟩
theorem k_isNv {ta : TE} (h : ta σ H fun x H1 => Q (.bl (decide (x = .non))) H1) : tIsN ta σ H Q := h
theorem k_notNv {ta : TE} (h : ta σ H fun x H1 => Q (.bl (!decide (x = .non))) H1) : tNotN ta σ H Q := h
theorem k_disp3 {k1 v1 k2 v2 k3 v3 : TE} (h : ∀ p, H p = none → k1 σ (upd H p (.dK [])) fun x1 H1 => v1 σ H1 fun y1 H2 => k2 σ H2 fun x2 H3 => v2 σ H3 fun y2 H4 => k3 σ H4 fun x3 H5 => v3 σ H5 fun y3 H6 =>
    H6 p = some (.dK []) ∧ ∃ kvs : List (Key × V), [(x1, y1), (x2, y2), (x3, y3)] = kvs.map (fun kv => (kV kv.1, kv.2)) ∧ kvs.length ≤ 15 ∧ Q (.ref p) (upd H6 p (.dK (mergeK [] kvs)))) : tDisp [(k1, v1), (k2, v2), (k3, v3)] σ H Q := h
theorem k_str {te : TE} {R : It → Hp → Prop} (h : te σ H fun x H1 => ∃ z, x = .str z ∧ R (Its z) H1) : iStr te σ H R := h
theorem k_enumT {K : PySem.W.Frag} {ta : TA} {R : It → Hp → Prop} (h : ta σ H fun vs H1 => ∃ a xs, vs = [.ref a] ∧ SqT K H1 a xs ∧ R (IteT K a) H1) : iEnumT K ta σ H R := h
end
/-! ### keys that are texts -/
theorem sne {a b : Str} (h : ¬ a = b) : ¬ (Sum.inr a : Key) = Sum.inr b := fun z => h (Sum.inr.inj z)
theorem kv_hit {k : Key} {v : V} {r : List (Key × V)} : valV ((k, v) :: r) k = some v := by
  unfold valV
  rw [List.find?_cons_of_pos (by simp)]
  rfl
theorem kv_miss {k j : Key} {v : V} {r : List (Key × V)} (h : ¬ j = k) : valV ((j, v) :: r) k = valV r k := by
  unfold valV
  rw [List.find?_cons_of_neg (by simpa using h)]
theorem kv_nil {k : Key} : valV ([] : List (Key × V)) k = none := rfl
/-! ### the deck -/
def dkv (c : Addr) (m n : Int) : List (Key × V) := [(Sum.inr "cells", .ref c), (Sum.inr "mixed", .int m), (Sum.inr "turn", .int n)]
theorem cm : ¬ ("cells" : Str) = "mixed" := by decide +kernel
theorem ct : ¬ ("cells" : Str) = "turn" := by decide +kernel
theorem mt : ¬ ("mixed" : Str) = "turn" := by decide +kernel
theorem dkv_cells {c : Addr} {m n : Int} : valV (dkv c m n) (Sum.inr "cells") = some (.ref c) := kv_hit
theorem dkv_mixed {c : Addr} {m n : Int} : valV (dkv c m n) (Sum.inr "mixed") = some (.int m) := (kv_miss (sne cm)).trans kv_hit
theorem dkv_turn {c : Addr} {m n : Int} : valV (dkv c m n) (Sum.inr "turn") = some (.int n) := (kv_miss (sne ct)).trans ((kv_miss (sne mt)).trans kv_hit)
theorem dkv_put {c : Addr} {m n y : Int} : putK (dkv c m n) (Sum.inr "turn") (.int y) = dkv c m y := by
  have e : ((dkv c m n).any fun kv => decide (kv.1 = (Sum.inr "turn" : Key))) = true := by
    simp [dkv]
  unfold putK
  rw [if_pos e]
  unfold dkv
  rw [List.map_cons, List.map_cons, List.map_cons, List.map_nil]
  rw [if_neg (by simpa using sne ct), if_neg (by simpa using sne mt), if_pos rfl]
theorem dkv_merge (c : Addr) (m n : Int) : mergeK [] (dkv c m n) = dkv c m n := by
  have p : ∀ (kvs : List (Key × V)) (k : Key) (v : V), valV kvs k = none → putK kvs k v = kvs ++ [(k, v)] := fun kvs k v h => putK_new _ h
  unfold mergeK dkv
  simp only [List.foldl_cons, List.foldl_nil]
  rw [p [] _ _ kv_nil, p, p]
  · rfl
  · exact (show valV [((Sum.inr "cells" : Key), V.ref c), (Sum.inr "mixed", V.int m)] (Sum.inr "turn") = none from (kv_miss (sne ct)).trans ((kv_miss (sne mt)).trans kv_nil))
  · exact (show valV [((Sum.inr "cells" : Key), V.ref c)] (Sum.inr "mixed") = none from (kv_miss (sne cm)).trans kv_nil)
def Dk (d c : Addr) (a : Addr) : Prop := a = d ∨ a = c
/-- b: at most so often it was drawn -/
def Deck (d c : Addr) (b : Int) (H : Hp) : Prop := ∃ (xs : List Int) (m n : Int), d ≠ c ∧ H d = some (.dK (dkv c m n)) ∧ H c = some (.lst (xs.map V.int)) ∧ 0 ≤ m ∧ m < 4294967296 ∧ 0 ≤ n ∧ n ≤ b ∧ xs.length ≤ 63
section
variable {d c p : Addr} {b b' : Int} {H H' : Hp} {M : Addr → Prop} {o : HO}
theorem Deck.mono (D : Deck d c b H) (h : b ≤ b') : Deck d c b' H := by
  obtain ⟨xs, m, n, ne, h1, h2, m0, m1, n0, n1, l⟩ := D
  exact ⟨xs, m, n, ne, h1, h2, m0, m1, n0, Int.le_trans n1 h, l⟩
theorem Deck.same (D : Deck d c b H) (s : Same H H') : Deck d c b H' := by
  obtain ⟨xs, m, n, ne, h1, h2, r⟩ := D
  exact ⟨xs, m, n, ne, s _ _ h1, s _ _ h2, r⟩
theorem Deck.new (D : Deck d c b H) (n : H p = none) : Deck d c b (upd H p o) := D.same (Same.upd n)
theorem Deck.off (D : Deck d c b H) (n : H p = none) : ¬ Dk d c p := by
  obtain ⟨xs, m, k, _, h1, h2, _⟩ := D
  rintro (rfl | rfl)
  · rw [h1] at n; cases n
  · rw [h2] at n; cases n
theorem Deck.kinds (D : Deck d c b H) (h : H p = some o) (n : ∀ xs, o ≠ .lst xs) (n2 : ∀ kvs, o ≠ .dK kvs) : ¬ Dk d c p := by
  obtain ⟨xs, m, k, _, h1, h2, _⟩ := D
  rintro (rfl | rfl)
  · rw [h1] at h
    cases h
    exact n2 _ rfl
  · rw [h2] at h
    cases h
    exact n _ rfl
theorem Deck.keep (D : Deck d c b H) (x : Ext M H H') (n1 : ¬ M d) (n2 : ¬ M c) : Deck d c b H' := by
  obtain ⟨xs, m, k, ne, h1, h2, r⟩ := D
  exact ⟨xs, m, k, ne, x.2 _ _ n1 h1, x.2 _ _ n2 h2, r⟩
theorem Deck.offL (D : Deck d c b H') (n : ¬ Dk d c p) : Deck d c b (upd H' p o) := by
  obtain ⟨xs, m, k, ne, h1, h2, r⟩ := D
  exact ⟨xs, m, k, ne, (upd_ne fun z => n (.inl z.symm)).trans h1, (upd_ne fun z => n (.inr z.symm)).trans h2, r⟩
theorem same_free (s : Same H H') (h : H' p = none) : H p = none := L2.Same.free s h
theorem same_off (s : Same H H') (n : H p = none) : Same H (upd H' p o) := fun a u e => by
  rw [upd_ne (ne_of_none e n)]
  exact s a u e
theorem ext_off (x : Ext M H H') (n : H p = none) : Ext M H (upd H' p o) := by
  refine ⟨fun a xs e => ?_, fun a u na e => ?_⟩
  · rw [upd_ne (ne_of_none e n)]
    exact x.1 a xs e
  · rw [upd_ne (ne_of_none e n)]
    exact x.2 a u na e
end
def Tups (H H' : Hp) : Prop := ∀ a xs, H a = some (.tup xs) → H' a = some (.tup xs)
theorem Tups.trans {H H1 H2 : Hp} (a : Tups H H1) (b : Tups H1 H2) : Tups H H2 := fun x xs h => b x xs (a x xs h)
theorem Tups.refl (H : Hp) : Tups H H := fun _ _ h => h
theorem Tups.same {H H' : Hp} (s : Same H H') : Tups H H' := fun a xs h => s a _ h
theorem tups_upd {H : Hp} {p : Addr} {o u : HO} (h : H p = some u) (n : ∀ xs, u ≠ .tup xs) : Tups H (upd H p o) := fun a xs e => by
  have na : a ≠ p := fun z => by
    rw [z, h] at e
    exact n xs (Option.some.inj e)
  rw [upd_ne na]
  exact e
theorem tups_new {H : Hp} {p : Addr} {o : HO} (h : H p = none) : Tups H (upd H p o) := fun a xs e => lk_new e h
theorem Ext.tups {M : Addr → Prop} {H H' : Hp} (x : Ext M H H') : Tups H H' := x.1
theorem passOwnA {X : Cx} {σ : L2.St} {E : XK} : PassesAt CX0 X σ E := fun _ _ _ _ _ _ h => h.elim
section
variable {σ : L2.St} {H : Hp} {Q : VK} {ta tb tc : TE} {r r' : R2}
theorem k_chain (h : ta σ H fun x H1 => tb σ H1 fun y H2 => r x y H2 fun z H3 => ∃ k, z = .bl k ∧ (if k = true then tc σ H3 fun w' H4 => r' y w' H4 Q else Q (.bl false) H3)) : tChain r r' ta tb tc σ H Q := h
end
/-! ### comprehensions that only lay new things -/
section
variable {J : It} {n : Nat} {G : Hp → Prop} {Y : Nat → Hp → V → Hp → Prop} {g : TG} {tt : TT} {te : TE} {vs : List Nat} {σ : L2.St} {H1 : Hp} {D : Addr} {Qd : Hp → Prop}
theorem lc_same (w : Walk J n G Y) (F : Nat → V) (p : Nat → Bool) (hn : n < 100000) (hD : H1 D = none) (hG : ∀ H, Same H1 H → G H)
    (hs : ∀ k x H H', k < n → Same H1 H → Y k H x H' → ∀ (Q : VK) (R : Hp → Prop), (p k = true → ∀ H4, Same H H4 → Q (F k) H4) → (p k = false → ∀ H4, Same H H4 → R H4) →
      g x (wipe σ vs) H' fun σ2 H2 => wipe σ2 vs = wipe σ vs ∧ tt σ2 H2 fun b H3 => if b = true then te σ2 H3 Q else R H3)
    (hd : ∀ H, Same H1 H → H D = some (.lst (((List.range n).filter p).map F)) → Qd H) :
    ∃ W : Nat → Nat → Hp → Prop, (∃ m, W 0 m (upd H1 D (.lst []))) ∧ ∀ i m H, W i m H →
      (J.stop i H ∧ Qd H) ∨ (J.go i H ∧ ∃ Nx : Hp → Prop, (∀ H', Nx H' → ∃ m', m' < m ∧ W (i + 1) m' H') ∧ ∀ x H', J.yld i H x H' → g x (wipe σ vs) H' fun σ2 H2 => wipe σ2 vs = wipe σ vs ∧ tt σ2 H2 fun b H3 =>
        if b = true then te σ2 H3 fun y H4 => ∃ acc, H4 D = some (.lst acc) ∧ acc.length < sizeLine ∧ Nx (upd H4 D (.lst (acc ++ [y]))) else Nx H3) := by
  refine lc_it w (fun k H => Same H1 H ∧ H D = some (.lst (((List.range k).filter p).map F))) ⟨Same.upd hD, upd_same⟩ (fun k H _ h => hG H h.1) (fun k x H H' hk h y => ?_) fun H h => hd H h.1 h.2
  obtain ⟨s1, hd1⟩ := h
  refine hs k x H H' hk s1 y _ _ (fun hp H4 s4 => ?_) fun hp H4 s4 => ?_
  · refine ⟨_, s4 _ _ hd1, k_szL ?_, same_off (s1.trans s4) hD, ?_⟩
    · rw [List.length_map]
      have := List.length_filter_le p (List.range k)
      rw [List.length_range] at this
      omega
    · rw [upd_same, List.range_succ, List.filter_append, List.filter_cons_of_pos hp, List.filter_nil, List.map_append]
      rfl
  · refine ⟨s1.trans s4, ?_⟩
    rw [List.range_succ, List.filter_append, List.filter_cons_of_neg (by rw [hp]; exact Bool.false_ne_true), List.filter_nil, List.append_nil]
    exact s4 _ _ hd1
end
theorem range_all (n : Nat) : (List.range n).filter (fun _ => true) = List.range n := List.filter_eq_self.mpr fun _ _ => rfl
theorem range_get {α β : Type} (xs : List α) (f : Nat → β) (h : α → β) (e : ∀ k x, xs[k]? = some x → f k = h x) : (List.range xs.length).map f = xs.map h := by
  refine List.ext_getElem? fun k => ?_
  rw [List.getElem?_map, List.getElem?_map]
  by_cases hk : k < xs.length
  · rw [List.getElem?_range hk, List.getElem?_eq_getElem hk]
    exact congrArg some (e k _ (List.getElem?_eq_getElem hk))
  · rw [List.getElem?_eq_none (by rw [List.length_range]; omega), List.getElem?_eq_none (by omega)]
    rfl
section
variable {K : PySem.W.Frag} {a b : Addr} {xs ys : List V}
theorem walk_zipT {n : Nat} (hn : n = min xs.length ys.length) : Walk (RZ.ItzT K a b) n (fun H => SqT K H a xs ∧ SqT K H b ys) (YPair (fun i => xs[i]?) (fun i => ys[i]?)) :=
  ⟨fun i H h q => ⟨xs, ys, _, _, q.1, q.2, List.getElem?_eq_getElem (by omega), List.getElem?_eq_getElem (by omega)⟩, fun H q => ⟨xs, ys, q.1, q.2, by omega⟩,
    fun i H x H' h q ⟨T, y, z, e1, e2, e3, e4, e5⟩ => ⟨T, y, z, e1, e2, e3, e4 xs q.1, e5 ys q.2⟩⟩
end
/-! ### slices -/
theorem cut_from {xs : List V} {k : Nat} : cutV xs (some (k : Int)) none = xs.drop k := by
  unfold cutV
  rw [HT.sIx_nat, HT.sIx_none]
  by_cases h : k ≤ xs.length
  · rw [Nat.min_eq_left h, List.take_of_length_le (by rw [List.length_drop]; exact Nat.le_refl _)]
  · rw [Nat.min_eq_right (by omega), Nat.sub_self, List.take_zero, List.drop_eq_nil_of_le (by omega)]
theorem cut_to {xs : List V} {k : Nat} : cutV xs none (some (k : Int)) = xs.take k := by
  unfold cutV
  rw [HT.sIx_nat, HT.sIx_none, List.drop_zero, Nat.sub_zero]
  by_cases h : k ≤ xs.length
  · rw [Nat.min_eq_left h]
  · rw [Nat.min_eq_right (by omega), List.take_length, List.take_of_length_le (by omega)]
theorem sla_of {K : PySem.W.Frag} {H : Hp} {Q : VK} {a : Addr} {xs ys : List V} {lo hi : Option Int} (ha : H a = some (.tup xs)) (e : cutV xs lo hi = ys) (h : ∀ b H', Same H H' → H' b = some (.tup ys) → Q (.ref b) H') : rSlA K (.ref a) lo hi H Q := by
  refine ⟨a, xs, rfl, SqT.of ha, fun z => h a H (Same.refl H) ?_, fun _ p hp => h p _ (Same.upd hp) (by rw [e]; exact upd_same)⟩
  have e2 : cutV xs lo hi = xs := by
    unfold cutV
    rw [z.1, z.2, List.drop_zero, Nat.sub_zero, List.take_length]
  rw [← e, e2]
  exact ha
theorem k_zipA {K : PySem.W.Frag} {ta : TA} {σ : L2.St} {H : Hp} {R : It → Hp → Prop} (h : ta σ H fun vs H1 => ∃ a b xs ys, vs = [.ref a, .ref b] ∧ ((SqL K H1 a xs ∧ SqL K H1 b ys ∧ R (Itz K a b) H1) ∨ (SqT K H1 a xs ∧ SqT K H1 b ys ∧ R (RZ.ItzT K a b) H1))) : RZ.iZipA K ta σ H R := h
end Own

set_option Elab.async false
set_option maxRecDepth 100000
set_option linter.unusedVariables false
/-! more steps -/
namespace Own
open PySem PySem.Spec PyProof.Rows L2
section
variable {A B : Prop}
theorem k_ifTt (h : A) : if true = true then A else B := by rwa [if_pos rfl]
theorem k_ifNf (h : A) : if (!false) = true then A else B := by
  rw [if_pos (by decide)]
  exact h
theorem k_ifFf (h : B) : if false = true then A else B := by rwa [if_neg (by decide)]
theorem k_ifNt (h : B) : if (!true) = true then A else B := by rwa [if_neg (by decide)]
end
theorem k_sure {c : Prop} [Decidable c] {A B : Prop} (h : c) (h1 : A) : if decide c = true then A else B := by
  rw [if_pos (decide_eq_true h)]
  exact h1
theorem k_sureN {c : Prop} [Decidable c] {A B : Prop} (h : c) (h1 : B) : if (!decide c) = true then A else B := by
  rw [if_neg (by rw [decide_eq_true h]; decide)]
  exact h1
theorem k_not1 {c : Prop} [Decidable c] {A B : Prop} (h : ¬ c) (h1 : B) : if decide c = true then A else B := by
  rw [if_neg (by rw [decide_eq_false h]; decide)]
  exact h1
theorem k_notN1 {c : Prop} [Decidable c] {A B : Prop} (h : ¬ c) (h1 : A) : if (!decide c) = true then A else B := by
  rw [if_pos (by rw [decide_eq_false h]; decide)]
  exact h1
theorem op_inK {X : Cx} {K : PySem.W.Frag} (h : X.K = K) : OpR X (compareOp .In) (rIn K false) := by
  subst h
  exact op_in_seq
theorem op_notInK {X : Cx} {K : PySem.W.Frag} (h : X.K = K) : OpR X (compareOp .NotIn) (rIn K true) := by
  subst h
  exact op_notIn_seq
section
variable {K : PySem.W.Frag} {σ : L2.St} {H : Hp} {Q : VK}
theorem isi_t {x : V} {A B : String} {b : Bool} (t : TyX K H x (.type A)) (e : kitB A B = some b) (h : Q (.bl b) H) : rIsi K [x, .ty B] H Q := ⟨_, _, _, _, b, rfl, .ty _, t, kit_ty e, h⟩
end
theorem all_map {α : Type} (xs : List α) (f : α → Bool) (h : ∀ x ∈ xs, f x = true) : (xs.map f).all id = true := List.all_eq_true.mpr fun b hb => by
  obtain ⟨x, hx, rfl⟩ := List.mem_map.mp hb
  exact h x hx
theorem inV_str {z : Str} {zs : List Str} (h : z ∈ zs) : inV (.str z) (zs.map V.str) = true := by
  unfold inV
  rw [List.any_eq_true]
  exact ⟨.str z, List.mem_map.mpr ⟨z, h, rfl⟩, by simp [eqV]⟩
theorem inV_strs {z : Str} {zs : List Str} : inV (.str z) (zs.map V.str) = decide (z ∈ zs) := by
  by_cases h : z ∈ zs
  · rw [inV_str h, decide_eq_true h]
  · rw [decide_eq_false h]
    unfold inV
    rw [List.any_eq_false]
    rintro v hv
    obtain ⟨y, hy, rfl⟩ := List.mem_map.mp hv
    have n : y ≠ z := fun e => h (e ▸ hy)
    simp [eqV, n]
theorem nodup_len {α : Type} [BEq α] [LawfulBEq α] : ∀ {zs cs : List α}, zs.Nodup → (∀ z ∈ zs, z ∈ cs) → zs.length ≤ cs.length
  | [], _, _, _ => Nat.zero_le _
  | z :: r, cs, nd, h => by
    have nd2 := List.nodup_cons.mp nd
    have hz := h z List.mem_cons_self
    have := nodup_len (cs := cs.erase z) nd2.2 fun y hy => (List.mem_erase_of_ne (fun e : y = z => nd2.1 (by rw [← e]; exact hy))).mpr (h y (List.mem_cons_of_mem _ hy))
    rw [List.length_erase_of_mem hz] at this
    have := List.length_pos_of_mem hz
    rw [List.length_cons]
    omega
/-- a statement that is not reached -/
theorem ps_nope {X : Cx} {st : Stmt} : PS X st (fun _ _ _ => False) := ⟨fun _ _ _ _ _ _ h => h.elim⟩
theorem pe_nope {X : Cx} {e : Expr} : PE X e (fun _ _ _ => False) := ⟨fun _ _ _ _ _ _ h => h.elim⟩
theorem k_din {td ty : TE} {σ : L2.St} {H : Hp} {Q : VK} (h : ty σ H fun y H1 => td σ H1 fun x H2 => ∃ a o, x = V.ref a ∧ DGet H2 a y o ∧ Q (V.bl o.isSome) H2) : tDIn ty td σ H Q := h
theorem k_fld {K : PySem.W.Frag} {ta tv : TE} {f : Str} {D : Ends} {σ : L2.St} {H : Hp} (h : tv σ H fun y H1 => ta σ H1 fun x H2 => ∃ a C dx fs, x = V.ref a ∧ H2 a = some (HO.ins C dx fs) ∧ Cls K C ∧ NoAttr K C f ∧ fs.length < 1000 ∧ D.nx σ (upd H2 a (HO.ins C dx (putF f y fs)))) : sFld K ta tv f D σ H := h
theorem k_dnewK {σ : L2.St} {H : Hp} {Q : VK} (h : ∀ p, H p = none → Q (V.ref p) (upd H p (HO.dK []))) : tDNewK σ H Q := h
/-! ### in order -/
theorem perm_map {α β : Type} {f : α → β} {ys l : List β} (h : ys.Perm l) : ∀ ts : List α, l = ts.map f → ∃ zs : List α, zs.Perm ts ∧ zs.map f = ys := by
  induction h with
  | nil =>
    intro ts e
    exact ⟨ts, .refl _, e.symm⟩
  | cons x _ ih =>
    intro ts e
    match ts, e with
    | t :: ts, e =>
      obtain ⟨e1, e2⟩ := List.cons.inj e
      obtain ⟨zs, p, m⟩ := ih ts e2
      exact ⟨t :: zs, p.cons t, by rw [List.map_cons, m, e1]⟩
  | swap x y l =>
    intro ts e
    match ts, e with
    | a :: b :: ts, e =>
      obtain ⟨e1, e2⟩ := List.cons.inj e
      obtain ⟨e2, e3⟩ := List.cons.inj e2
      exact ⟨b :: a :: ts, .swap a b ts, by rw [List.map_cons, List.map_cons, ← e1, ← e2, e3]⟩
  | trans _ _ ih1 ih2 =>
    intro ts e
    obtain ⟨zs, p, m⟩ := ih2 ts e
    obtain ⟨us, p2, m2⟩ := ih1 zs m.symm
    exact ⟨us, p2.trans p, m2⟩
theorem k_lc {wi : TI} {g : TG} {tt : TT} {te : TE} {vs : List Nat} {σ : L2.St} {H : Hp} {Q : VK} (h : wi σ H fun J H1 => ∀ D, H1 D = none → ∃ W : Nat → Nat → Hp → Prop, (∃ m, W 0 m (upd H1 D (.lst []))) ∧ ∀ i m H, W i m H →
      (J.stop i H ∧ Q (.ref D) H) ∨ (J.go i H ∧ ∃ Nx : Hp → Prop, (∀ H', Nx H' → ∃ m', m' < m ∧ W (i + 1) m' H') ∧ ∀ x H', J.yld i H x H' → g x (wipe σ vs) H' fun σ2 H2 => wipe σ2 vs = wipe σ vs ∧ tt σ2 H2 fun b H3 =>
        if b = true then te σ2 H3 fun y H4 => ∃ acc, H4 D = some (.lst acc) ∧ acc.length < sizeLine ∧ Nx (upd H4 D (.lst (acc ++ [y]))) else Nx H3)) : tLc wi g tt te vs σ H Q := h
/-- an f-string -/
def tJ (ts : List TE) : TE := fun σ H Q => tJs ts Str.empty σ H fun out H1 => Q (V.str out) H1
theorem k_tJ {ts : List TE} {σ : L2.St} {H : Hp} {Q : VK} (h : tJs ts Str.empty σ H fun out H1 => Q (V.str out) H1) : tJ ts σ H Q := h
theorem pe_tJ {X : Cx} {v1 v2 : Expr} {rest : List Expr} {ts : List TE} {pos : Pos} (h : PJ X (v1 :: v2 :: rest) ts) : PE X (.JoinedStr (v1 :: v2 :: rest) pos) (tJ ts) := pe_joined h
theorem k_tJc {t : TE} {ts : List TE} {acc : Str} {σ : L2.St} {H : Hp} {Q : Str → Hp → Prop} (h : t σ H fun x H1 => ∃ y : Str, x = .str y ∧ (acc ++ y).length ≤ sizeLine ∧ tJs ts (acc ++ y) σ H1 Q) : tJs (t :: ts) acc σ H Q := h
theorem k_tJn {acc : Str} {σ : L2.St} {H : Hp} {Q : Str → Hp → Prop} (h : Q acc H) : tJs [] acc σ H Q := h
theorem k_fmt {te : TE} {σ : L2.St} {H : Hp} {Q : VK} (h : te σ H fun x H1 => (∃ y : Str, x = .str y ∧ y.length ≤ sizeLine ∧ Q (.str y) H1) ∨ ∃ i : Int, x = .int i ∧ i.natAbs.log2 < 1920 ∧ Q (.str (toString i)) H1) : tFmt te σ H Q := h
theorem k_fmtS {z acc : Str} {Q : Str → Prop} {R : Int → Prop} (l : z.length ≤ sizeLine) (l2 : (acc ++ z).length ≤ sizeLine) (h : Q z) :
    (∃ y : Str, V.str z = .str y ∧ y.length ≤ sizeLine ∧ ∃ y1 : Str, V.str y = .str y1 ∧ (acc ++ y1).length ≤ sizeLine ∧ Q y1) ∨ ∃ i : Int, V.str z = .int i ∧ i.natAbs.log2 < 1920 ∧ R i := .inl ⟨z, rfl, l, z, rfl, l2, h⟩
theorem k_txt {z acc : Str} {Q : Str → Prop} (l : (acc ++ z).length ≤ sizeLine) (h : Q z) : ∃ y : Str, V.str z = .str y ∧ (acc ++ y).length ≤ sizeLine ∧ Q y := ⟨z, rfl, l, h⟩
theorem c_lenK {X : Cx} {K : PySem.W.Frag} (h : X.K = K) : CallR X (.builtin "len") (Own.rLen K) := by
  subst h
  exact c_len
theorem pe_makeR0 {X : Cx} {CX : CXT} {k : Nat} {f C : Addr} {sp : Sp} {E : XK} {x : Str} {p pos : Pos} (M : Mk X.K C f) (F : FnR X.prog X.w X.K X.mg X.base CX k f sp) (hr : Room (k + 1) X.A) (gl : Gl X x) (at_ : X.mg x = some (.ref C)) (px : Passes CX X E)
    (nodbg : (x == ("__debug__" : Str)) = false := by decide) : PE X (.Call (.Name x p) [] [] pos) (StX.tMakeR C sp E tNil) := by
  constructor
  intro pins s σ H Q I q
  refine wpAny_Call_Name_kw (ld_glob I gl at_ ?_ nodbg)
  have h := StX.run_makeR (us := []) (vs := []) M F hr px I .nil q
  refine PySem.W.callWith_K0 I.kIn M.kp ?_
  exact h
theorem k_makeR {C : Addr} {sp : Sp} {E : XK} {t : TA} {σ : L2.St} {H : Hp} {Q : VK} (h : t σ H fun vs H1 => ∀ (x dx : Addr), H1 x = none → H1 dx = none → dx ≠ x → sp (V.ref x :: vs) (upd (upd H1 dx (HO.own x)) x (HO.ins C dx [])) (fun v H2 => v = V.non ∧ Q (V.ref x) H2) E) : StX.tMakeR C sp E t σ H Q := h
end Own

set_option Elab.async false
set_option maxRecDepth 100000
set_option linter.unusedVariables false
/-! xs[lo:hi:step] of lists -/
namespace Own
open PySem PySem.Spec PyProof.Rows L2
def pickV {α : Type} (xs : List α) (lo hi st : Option Int) : List α := (sliceRange (sliceBounds lo hi st xs.length).fst (sliceBounds lo hi st xs.length).snd.fst (sliceBounds lo hi st xs.length).snd.snd).filterMap fun i => xs[i]?
theorem pick_vals {xs : List V} {its : List Value} (h : Vals xs its) : ∀ is : List Nat, Vals (is.filterMap fun i => xs[i]?) (is.filterMap fun i => its[i]?)
  | [] => .nil
  | i :: is => by
    have ih := pick_vals h is
    by_cases hi : i < xs.length
    · have e1 : xs[i]? = some xs[i] := List.getElem?_eq_getElem hi
      obtain ⟨u, hu, ru⟩ := h.get e1
      rw [List.filterMap_cons_some e1, List.filterMap_cons_some hu]
      exact .cons ru ih
    · have e1 : xs[i]? = none := List.getElem?_eq_none (by omega)
      have e2 : its[i]? = none := List.getElem?_eq_none (by rw [← h.length]; omega)
      rw [List.filterMap_cons_none e1, List.filterMap_cons_none e2]
      exact ih
def tSl3 (K : PySem.W.Frag) (te : TE) (tl th ts : TO) : TE := fun σ H Q => te σ H fun x H1 => tl σ H1 fun l H2 => th σ H2 fun u H3 => ts σ H3 fun st H4 => ∃ a xs, x = V.ref a ∧ SqL K H4 a xs ∧ st ≠ some 0 ∧ (pickV xs l u st).length ≤ sizeLine ∧ ∀ p, H4 p = none → Q (.ref p) (upd H4 p (.lst (pickV xs l u st)))
theorem pe_slice3 {X : Cx} {e : Expr} {te : TE} {lo hi : Option Expr} {sx : Expr} {tl th ts : TO} {pos p2 : Pos} (he : PE X e te) (hl : PO X lo tl) (hu : PO X hi th) (hs : PO X (some sx) ts) : PE X (e.Subscript (Expr.Slice lo hi (some sx) p2) pos) (tSl3 X.K te tl th ts) := by
  constructor
  intro pins s σ H Q I h
  refine Subscript_ (thn (he.run pins s σ H _ I h) fun v s1 ⟨x, H1, I1, r1, q1⟩ => ?_)
  refine wpAny_Slice (thn (hl.run pins s1 σ H1 _ I1 q1) fun vl s2 ⟨l, H2, I2, pl, q2⟩ => ?_)
  refine thn (hu.run pins s2 σ H2 _ I2 q2) fun vu s3 ⟨u, H3, I3, pu, q3⟩ => ?_
  refine thn (hs.run pins s3 σ H3 _ I3 q3) fun vs s4 ⟨st, H4, I4, ps, q4⟩ => ?_
  obtain ⟨a, xs, rfl, hx, h0, hz, q⟩ := q4
  obtain rfl : v = Value.ref a := r1
  have I5 := Inv.kept (t' := s4.toks) I4 fun b ob q => Heap.get?_push_of_some { cls := Value.type "slice", data := Data.fields #[vl, vu, vs] } q
  obtain ⟨its, r, ht, hz2⟩ := I5.list hx
  have hlen := r.length
  have nl : s4.heap.objs.size + 1 = (s4.heap.push { cls := Value.type "slice", data := Data.fields #[vl, vu, vs] }).objs.size := by simp [Heap.push]
  refine tail_any (PlainL.isList ht).typeIs slot_list_getitem.lookup (wpAny_getItem_list_slice (PlainL.isList ht) (Heap.IsSliceOf.new s4.heap vl vu vs) pl pu ps h0 ?_ (by rw [List.size_toArray]; omega)) rfl
  have ep : slicePick its.toArray l u st = (pickV its l u st).toArray := by
    unfold slicePick pickV
    simp
  have el : pickV its l u st = (sliceRange (sliceBounds l u st xs.length).fst (sliceBounds l u st xs.length).snd.fst (sliceBounds l u st xs.length).snd.snd).filterMap fun i => its[i]? := by
    unfold pickV
    rw [← hlen]
  have rv : Vals (pickV xs l u st) (pickV its l u st) := by
    rw [el]
    exact pick_vals r _
  rw [ep]
  exact ⟨.ref _, upd H4 _ (.lst (pickV xs l u st)), I5.laid (o := .lst (pickV xs l u st)) (fun b ob q => Heap.get?_push_of_some _ q) (Nat.le_refl _) ⟨hz, _, 0, rv, Heap.get?_push_size _ rfl⟩, rfl, q _ (I5.hok.fresh (Nat.le_refl _))⟩
/-- xs.count(z), xs a list of texts -/
def rCntS (K : PySem.W.Frag) : V → List V → Hp → VK → Prop := fun x xs H Q => ∃ (p : Addr) (zs : List Str) (z : Str), x = .ref p ∧ xs = [.str z] ∧ SqL K H p (zs.map V.str) ∧ Q (.int (zs.countP fun y => y == z : Nat)) H
def isTxt (z : Str) : Value → Bool := fun y => match y with | .str a _ => a == z | _ => false
theorem cnt_txt {z : Str} : ∀ {zs : List Str} {its : List Value}, Vals (zs.map V.str) its → its.countP (isTxt z) = zs.countP fun y => y == z
  | [], _, .nil => rfl
  | y :: zs, _, .cons h t => by
    obtain ⟨u, rfl⟩ := h
    rw [List.countP_cons, List.countP_cons, cnt_txt t]
    rfl
theorem mt_countS {X : Cx} : MtR X "list.count" (rCntS X.K) := by
  intro pins s σ H x xs v us Q I rx rxs h
  obtain ⟨p, zs, z, rfl, rfl, hs, q⟩ := h
  obtain rfl : v = Value.ref p := rx
  obtain ⟨u, rfl, ru⟩ := rxs.one
  obtain ⟨t, rfl⟩ := ru
  obtain ⟨its, r, ⟨⟨oc, od, odt, osl⟩, n, ho, hc, hd, hdt⟩, hz⟩ := I.list hs
  simp only at hc hd hdt
  subst hc hdt
  refine call_meets F.slot_list_count ⟨_, ho, rfl⟩ F.entry_list_count (F.args_list_count_2 _ _) (SeqAt.list_countAt p its.toArray n od osl (.str z t) (isTxt z)) ⟨ho, fun y hy => ?_, ?_⟩
  · obtain ⟨i, hi⟩ := List.getElem?_of_mem (Array.mem_toList_iff.mpr hy)
    have hi : its[i]? = some y := by simpa using hi
    have li : i < (zs.map V.str).length := by
      rw [r.length]
      exact (List.getElem?_eq_some_iff.mp hi).1
    obtain ⟨u, hu, ru⟩ := r.get (List.getElem?_eq_getElem li)
    rw [hi] at hu
    obtain rfl := Option.some.inj hu
    rw [List.getElem_map] at ru
    obtain ⟨t2, rfl⟩ := ru
    exact SeqAt.EqAt.str_str _ _ _ _
  · refine ⟨.int _, H, I.tok _, ⟨_, rfl⟩, ?_⟩
    rw [show its.toArray.toList = its from rfl, cnt_txt r]
    exact q
/-! every second one -/
theorem pick2 {α : Type} {xs : List α} {a m : Nat} (h : xs.length = 2 * m + 1) (ha : a = 1 ∨ a = 2) : pickV xs (some (a : Int)) none (some 2) = (List.range m).filterMap fun k => xs[a + 2 * k]? := by
  unfold pickV sliceBounds sliceRange
  simp only [Option.getD_some, h]
  have h0 : ¬ ((a : Int) < 0) := by omega
  have h2 : (2 : Int) > 0 := by decide
  simp only [h0, h2, if_false, if_true]
  by_cases hm : m = 0
  · subst hm
    rcases ha with rfl | rfl <;> rfl
  · have e1 : max (0 : Int) (min (a : Int) ((2 * m + 1 : Nat) : Int)) = a := by omega
    rw [e1, if_pos (by omega)]
    have e2 : ((((2 * m + 1 : Nat) : Int) - a + 2 - 1) / 2).toNat = m := by omega
    rw [e2, List.filterMap_map]
    congr 1
theorem pairs_at {α : Type} : ∀ (ps : List (α × α)) (k : Nat), (ps.flatMap fun p => [p.1, p.2])[2 * k]? = ps[k]?.map Prod.fst ∧ (ps.flatMap fun p => [p.1, p.2])[2 * k + 1]? = ps[k]?.map Prod.snd
  | [], k => by simp
  | p :: ps, 0 => by simp
  | p :: ps, k + 1 => by
    have ih := pairs_at ps k
    have e1 : 2 * (k + 1) = 2 * k + 2 := by omega
    rw [e1]
    simpa using ih
theorem pairs_len {α : Type} : ∀ ps : List (α × α), (ps.flatMap fun p => [p.1, p.2]).length = 2 * ps.length
  | [] => rfl
  | p :: ps => by
    have := pairs_len ps
    rw [List.flatMap_cons, List.length_append, this, List.length_cons]
    show 2 + 2 * ps.length = 2 * (ps.length + 1)
    omega
theorem range_pick {α β : Type} (ps : List α) (f : α → β) : ((List.range ps.length).filterMap fun k => ps[k]?.map f) = ps.map f := by
  have e : ∀ n, n ≤ ps.length → ((List.range n).filterMap fun k => ps[k]?.map f) = (ps.take n).map f := by
    intro n
    induction n with
    | zero => intro _; simp
    | succ n ih =>
      intro hn
      have hx : ps[n]? = some ps[n] := List.getElem?_eq_getElem (by omega)
      rw [List.range_succ, List.filterMap_append, ih (by omega), List.take_add_one, hx, List.map_append]
      congr 1
      simp [hx]
  have := e ps.length (Nat.le_refl _)
  rw [List.take_length] at this
  exact this
theorem pick_odd {α : Type} (x : α) (ps : List (α × α)) : pickV (x :: ps.flatMap fun p => [p.1, p.2]) (some 1) none (some 2) = ps.map Prod.fst := by
  have h : (x :: ps.flatMap fun p => [p.1, p.2]).length = 2 * ps.length + 1 := by rw [List.length_cons, pairs_len]
  have := pick2 (a := 1) h (.inl rfl)
  rw [show (some (1 : Int)) = some (((1 : Nat) : Int)) from rfl, this, ← range_pick ps Prod.fst]
  congr 1
  funext k
  rw [show 1 + 2 * k = 2 * k + 1 from by omega, List.getElem?_cons_succ]
  exact (pairs_at ps k).1
theorem pick_even {α : Type} (x : α) (ps : List (α × α)) : pickV (x :: ps.flatMap fun p => [p.1, p.2]) (some 2) none (some 2) = ps.map Prod.snd := by
  have h : (x :: ps.flatMap fun p => [p.1, p.2]).length = 2 * ps.length + 1 := by rw [List.length_cons, pairs_len]
  have := pick2 (a := 2) h (.inr rfl)
  refine Eq.trans (show _ = _ from this) ?_
  rw [← range_pick ps Prod.snd]
  congr 1
  funext k
  rw [show 2 + 2 * k = (2 * k + 1) + 1 from by omega, List.getElem?_cons_succ]
  exact (pairs_at ps k).2
end Own

set_option Elab.async false
set_option maxRecDepth 100000
set_option linter.unusedVariables false
/-! class methods, by place and by name; a class in a name called with a star -/
namespace Own
open PySem PySem.Spec PyProof.Rows L2
section
variable {X : Cx} {Z : CXT} {k i : Nat} {f C : Addr} {sp : Sp} {E : XK} {x : Str} {e : Expr} {te : TE} {p sp_ pos : Pos}
/-- x(*e), x a name that holds the class at C -/
def tMkS (K : PySem.W.Frag) (i : Nat) (C : Addr) (sp : Sp) (E : XK) (te : TE) : TE := fun σ H Q => σ[i]? = some (some (.ref C)) ∧ te σ H fun y H1 => ∃ a xs, y = V.ref a ∧ (SqT K H1 a xs ∨ SqL K H1 a xs) ∧
  ∀ x dx, H1 x = none → H1 dx = none → dx ≠ x → sp (V.ref x :: xs) (upd (upd H1 dx (.own x)) x (.ins C dx [])) (fun v H2 => v = .non ∧ Q (.ref x) H2) E
theorem k_mkS {K : PySem.W.Frag} {σ : L2.St} {H : Hp} {Q : VK} (hi : σ[i]? = some (some (.ref C))) (h : te σ H fun y H1 => ∃ a xs, y = V.ref a ∧ (SqT K H1 a xs ∨ SqL K H1 a xs) ∧
  ∀ x dx, H1 x = none → H1 dx = none → dx ≠ x → sp (V.ref x :: xs) (upd (upd H1 dx (.own x)) x (.ins C dx [])) (fun v H2 => v = .non ∧ Q (.ref x) H2) E) : tMkS K i C sp E te σ H Q := ⟨hi, h⟩
theorem pe_makeS (M : Mk X.K C f) (F : FnR X.prog X.w X.K X.mg X.base Z k f sp) (hr : Room (k + 1) X.A) (px : Passes Z X E) (hN : X.N[i]? = some x) (hv : Vis X.env.scope x) (he : PE X e te)
    (hdb : (x == ("__debug__" : Str)) = false := by decide) (hcd : (x == ("__classdict__" : Str)) = false := by decide) (hst : starEach [.Starred e sp_] X.env = [(true, eval e X.env)] := by rfl) :
    PE X (.Call (.Name x p) [.Starred e sp_] [] pos) (tMkS X.K i C sp E te) := by
  refine ⟨fun pins s σ H Q I h => ?_⟩
  obtain ⟨hs, ht⟩ := h
  refine wpAny_Call_Name_kw (thn ((pe_var (pos := p) hN hv hdb hcd).run pins s σ H (fun v H1 => v = .ref C ∧ H1 = H) I ⟨.ref C, hs, rfl, rfl⟩) fun u s1 ⟨v, H1, I1, r1, q1⟩ => ?_)
  obtain ⟨rfl, rfl⟩ := q1
  cases r1
  refine PySem.W.callWith_S (h₀ := X.base) I.ok.mod.kin M.kp (thn (he.run pins s1 σ _ _ I1 ht) fun v s2 ⟨y, H2, I2, ry, a, xs, ey, hxs, q⟩ => ?_) hst
  subst ey
  obtain rfl : v = Value.ref a := ry
  exact StX.star_any I2 hxs fun us s3 I3 rv => ⟨I3.kIn, StX.run_makeR M F hr px I3 rv q⟩
end
section
variable {X : Cx} {Z : CXT} {k n : Nat} {C p g : Addr} {mc : Value} {fd : FuncData} {ps ks : List Str} {sp : Sp} {E : L2.St → XK} {o e : Expr} {es : List Expr} {kws : List Keyword} {m : Str} {pos apos : Pos} {ta : TE} {t tk : TA} {pl : Sem Bool}
  {gg : List Value → List Value → List Value} {gV : List V → List V → List V}
/-- C.m(e, ..), which may raise -/
def tCMS (C : Addr) (sp : Sp) (E : L2.St → XK) (ta : TE) (t : TA) : TE := fun σ H Q => ta σ H fun x H1 => x = .ref C ∧ t σ H1 fun vs H2 => sp (.ref C :: vs) H2 Q (E σ)
theorem k_cms {σ : L2.St} {H : Hp} {Q : VK} (h : ta σ H fun x H1 => x = .ref C ∧ t σ H1 fun vs H2 => sp (.ref C :: vs) H2 Q (E σ)) : tCMS C sp E ta t σ H Q := h
theorem run_cmS {pins : List (Addr × Obj)} {σ : L2.St} {H : Hp} {s : Shared} {q : Addr} {Q : VK} {us : List Value} {vs : List V} (F : FnR X.prog X.w X.K X.mg X.base Z k g sp) (hr : Room k X.A) (hx : PassesAt Z X σ (E σ))
    (I : Inv X ((q, PySem.W.methodObj (.ref g) (.ref C)) :: pins) σ H s) (r : Vals vs us) (h : sp (.ref C :: vs) H Q (E σ)) : wpAny (model X.prog X.w) X.A (call (.ref q) us) (EP X pins σ Q) X.xe s := by
  have z : wpAny (model X.prog X.w) X.A (call (.ref q) us) (EP X ((q, PySem.W.methodObj (.ref g) (.ref C)) :: pins) σ Q) X.xe s := by
    refine wpAny_call (PySem.W.method_call (ClX.pin_at I) (codeAny_mono (F X.A X.stack s H (.ref C :: us) (.ref C :: vs) Q (E σ) hr I.env0 (.cons rfl r) h) fun r s' hq => ?_))
    match r, hq with
    | .error e, hq => exact hx _ H s e s' I hq
    | .ok (.ret u), hq => exact I.after hq
    | .ok .next, hq => exact hq.elim
    | .ok .brk, hq => exact hq.elim
    | .ok .cont, hq => exact hq.elim
  exact thn z fun _ _ y => ClX.unpinE y
theorem pe_cmS (he : PE X o ta) (r : ClX.CRead X.K C mc) (c : ClX.CMet X.K C mc m p g) (F : FnR X.prog X.w X.K X.mg X.base Z k g sp) (hr : Room k X.A) (hx : ∀ σ, PassesAt Z X σ (E σ)) (ha : PA X (e :: es) t)
    (hst : starEach (e :: es) X.env = (false, eval e X.env) :: starEach es X.env := by rfl) (hpl : (backTo pos (starEach es X.env)).any (·.1) = false := by rfl)
    (ht : eval (.Call (.Attribute o m apos) (e :: es) [] pos) X.env = (do
      let ov ← eval o X.env
      standAt apos.atName
      let (f, first) ← holding [ov] (getMethod ov m pl)
      callWith pos f first (backTo pos (starEach (e :: es) X.env)) (backToKw pos (keywordEach [] X.env))) := by rfl) :
    PE X (.Call (.Attribute o m apos) (e :: es) [] pos) (tCMS C sp E ta t) := by
  refine ⟨fun pins s σ H Q I h => ?_⟩
  refine PySem.W.methodCall_KW (pl := pl) (thn (he.run pins s σ H _ I h) fun u s1 ⟨x, H1, I1, rx, ex, q⟩ => ?_) ht
  subst ex
  obtain rfl : u = Value.ref C := rx
  refine ClX.getmethcm_ok I1 r c fun s2 I2 => ?_
  refine ClX.callwith_cm I2 (ClX.base_none I1 (Nat.le_refl _)) c.fi (thn (ha.run pos _ s2 σ H1 _ I2 q) fun us s3 ⟨vs, H2, I3, rv, q2⟩ => ⟨⟨ClX.pin_at I3, I3.kIn⟩, ?_⟩) hst hpl
  exact run_cmS F hr (hx σ) I3 rv q2
/-- C.m(k = v, ..) -/
def tCMK (C : Addr) (n mm : Nat) (sp : Sp) (gV : List V → List V → List V) (E : L2.St → XK) (ta : TE) (tk : TA) : TE := fun σ H Q => ta σ H fun x H1 => x = .ref C ∧ tk σ H1 fun zs H2 => [V.ref C].length = n ∧ zs.length = mm ∧ sp (gV [V.ref C] zs) H2 Q (E σ)
theorem k_cmk {mm : Nat} {σ : L2.St} {H : Hp} {Q : VK} (h : ta σ H fun x H1 => x = .ref C ∧ tk σ H1 fun zs H2 => [V.ref C].length = n ∧ zs.length = mm ∧ sp (gV [V.ref C] zs) H2 Q (E σ)) : tCMK C n mm sp gV E ta tk σ H Q := h
theorem pe_cmK0 (he : PE X o ta) (r : ClX.CRead X.K C mc) (c : ClX.CMet X.K C mc m p g) (F : FnOk X.prog X.w X.K X.mg X.base Z k g fd ps sp) (hr : Room k X.A) (kb : KBn X.K fd ps n ks gg gV) (hx : ∀ σ, PassesAt Z X σ (E σ))
    (pk : PK X kws tk) (all : (backToKw pos (keywordEach kws X.env)).all (·.1.isSome) = true := by rfl) (nm : (backToKw pos (keywordEach kws X.env)).filterMap (·.1) = ks := by rfl)
    (pn : ((backTo pos (starEach [] X.env)).any (·.1) || (backToKw pos (keywordEach kws X.env)).any (·.1.isNone)) = false := by rfl)
    (ht : eval (.Call (.Attribute o m apos) [] kws pos) X.env = (do
      let ov ← eval o X.env
      standAt apos.atName
      let (f, first) ← holding [ov] (getMethod ov m pl)
      callWith pos f first (backTo pos (starEach [] X.env)) (backToKw pos (keywordEach kws X.env))) := by rfl) :
    PE X (.Call (.Attribute o m apos) [] kws pos) (tCMK C n ks.length sp gV E ta tk) := by
  refine ⟨fun pins s σ H Q I h => ?_⟩
  refine PySem.W.methodCall_KW (pl := pl) (thn (he.run pins s σ H _ I h) fun u s1 ⟨x, H1, I1, rx, ex, q⟩ => ?_) ht
  subst ex
  obtain rfl : u = Value.ref C := rx
  refine ClX.getmethcm_ok I1 r c fun s2 I2 => ?_
  refine PySem.W.callWith_of (P := PySem.W.MethP X.K s1.heap.objs.size g (.ref C)) pn (PySem.W.keeps_M c.fi) (PyProof.Rows.evalArgs_kw2_nil all (thn (pk.run pos _ s2 σ H1 _ I2 q) fun ws s3 ⟨zs, H2, I3, rz, l1, l2, q2⟩ => ⟨⟨ClX.pin_at I3, I3.kIn⟩, ?_⟩))
  rw [nm]
  have z : wpAny (model X.prog X.w) X.A (call (.ref s1.heap.objs.size) [] (ks.zip ws)) (EP X ((s1.heap.objs.size, PySem.W.methodObj (.ref g) (.ref C)) :: pins) σ Q) X.xe s3 := by
    have rv : Vals [V.ref C] [Value.ref C] := .cons rfl .nil
    have rr := kb.rel rv rz
    refine wpAny_call (PySem.W.method_call (ClX.pin_at I3) (codeAny_mono (F.run X.A X.stack s3 H2 ⟨[.ref C], ks.zip ws⟩ (gg [.ref C] ws) (gV [.ref C] zs) Q (E σ) hr I3.env0 (kb.to s3 [.ref C] ws I3.kIn (rv.length.symm.trans l1) (rz.length.symm.trans l2)) rr q2) fun r s' hq => ?_))
    match r, hq with
    | .error e, hq => exact hx σ _ H2 s3 e s' I3 hq
    | .ok (.ret u), hq => exact I3.after hq
    | .ok .next, hq => exact hq.elim
    | .ok .brk, hq => exact hq.elim
    | .ok .cont, hq => exact hq.elim
  exact thn z fun _ _ y => ClX.unpinE y
end
end Own

set_option Elab.async false
set_option maxRecDepth 100000
set_option linter.unusedVariables false
/-! sorted(t), t a tuple of data; lists and tuples of texts -/
namespace Own
open PySem PySem.Spec PyProof.Rows L2
section
variable {X : Cx}
open PySem.W PySem.Calls in
theorem sorted_seq {prog : Program} {w : World} {A : Around} {E : Value → Shared → Prop} {s : Shared} {β : Type} {vs : List Value} {bs : List β} {enc : β → PyData} {R : Value → β → Prop} {l : Addr} {T : String} {o : Obj} {n : Nat} {Q : Value → Shared → Prop} (hT : T = "list" ∨ T = "tuple")
    (ho : s.heap.get? l = some o) (hc : o.cls = .type T) (hd : o.data = .seq vs.toArray n) (e : EachIs R vs bs) (er : EachIs (fun v b => ∃ as, Reads s.heap v (enc b) as) vs bs) (hal : AllAlike (bs.map enc)) (hk : Sortable (bs.map enc)) (hL : bs.length ≤ sizeLine)
    (hu : ∀ b, b ∈ bs → A.units + 2 + (enc b).depth < cLine)
    (h : ∀ (h1 h2 : Heap) (out : List Value) (m : Nat), (∀ b ob, s.heap.get? b = some ob → h1.get? b = some ob) → (∀ b ob, h1.get? b = some ob → h2.get? b = some ob) → h2.get? h1.objs.size = some (seqObj "list" out.toArray m) → out.length = bs.length → EachIs R out (bs.mergeSort (dataLe false enc)) → Q (.ref h1.objs.size) { s with heap := h2 }) :
    wpAny (model prog w) A (call (.builtin "sorted") [.ref l]) Q E s := by
  have hvs : vs.length ≤ sizeLine := by rw [e.length]; exact hL
  refine call_function_entry_kw kind_sorted plain_sorted entry_sorted (args_sorted1 _) ?_
  unfold Builtin.«sorted»
  refine wpAny_bind (m := checkCount "sorted" 1 1 _) (wpAny_pure ?_)
  refine wpAny_bind (wpAny_collect_seq l hT ho hc hd (fun h1 hk1 => ?_) (by rw [List.size_toArray]; exact hvs))
  refine wpAny_bind (wpAny_newList ?_ (by simpa using hvs))
  have at_ : (h1.push (seqObj "list" vs.toArray 0)).get? h1.objs.size = some (seqObj "list" vs.toArray 0) := Heap.get?_push_size _ rfl
  have old : ∀ b ob, h1.get? b = some ob → (h1.push (seqObj "list" vs.toArray 0)).get? b = some ob := fun b ob q => Heap.get?_push_of_some _ q
  have er' : EachIs (fun v b => ∃ as, Reads (sortingHeap (h1.push (seqObj "list" vs.toArray 0)) h1.objs.size vs) v (enc b) as) vs bs := er.mono fun _ _ ⟨as, r⟩ => ⟨as, PyProof.Rows.Reads.keeps (fun b ob q =>
    sortingHeap_old (Nat.ne_of_lt (Heap.lt_size (hk1 b ob q))) (old b ob (hk1 b ob q))) r⟩
  refine wpAny_bind (wpAny_holding (wpAny_call_entry_kw slot_list_sort ⟨_, at_, rfl⟩ entry_list_sort ?body (args_list_sort _)))
  case body =>
    show wpAny (model prog w) A.in1.in1 (Builtin.«list.sort» ⟨[.ref h1.objs.size], []⟩) _ _ { s with heap := h1.push (seqObj "list" vs.toArray 0) }
    refine wpAny_mono (Q := fun f s' => f = .done (.ret .none) ∧ s' = { s with heap := sortedHeap (h1.push (seqObj "list" vs.toArray 0)) h1.objs.size vs (sortVals (dataKind (sortingHeap (h1.push (seqObj "list" vs.toArray 0)) h1.objs.size vs) (bs.map enc)) false vs vs).toArray }) (list_sort_vals (s := { s with heap := h1.push (seqObj "list" vs.toArray 0) }) at_ (SortsAt.data (s := { s with heap := sortingHeap (h1.push (seqObj "list" vs.toArray 0)) h1.objs.size vs }) (each_map (R := fun v d => ∃ as, Reads (sortingHeap (h1.push (seqObj "list" vs.toArray 0)) h1.objs.size vs) v d as) enc er') hal hk (bound_map hu)) hvs ⟨rfl, rfl⟩) (fun f s' hf => ?_) fun _ _ z => z
    obtain ⟨rfl, rfl⟩ := hf
    refine ⟨_, rfl, wpAny_pure ⟨_, rfl, ?_⟩⟩
    obtain ⟨m, hm⟩ := sortedHeap_at (out := (sortVals (dataKind (sortingHeap (h1.push (seqObj "list" vs.toArray 0)) h1.objs.size vs) (bs.map enc)) false vs vs).toArray) at_
    exact h h1 _ _ m hk1 (fun b ob q => (sortedHeap_old (Nat.ne_of_lt (Heap.lt_size q)) (by rw [size_push']; exact Nat.lt_succ_of_lt (Heap.lt_size q))).trans (old b ob q)) hm (by rw [sortVals_length false rfl]; exact e.length) (sortVals_data false e er' hal)
/-- sorted(x), x a list or a tuple of data -/
def rSortedA (K : PySem.W.Frag) : List V → Hp → VK → Prop := fun xs H Q => ∃ (a : Addr) (bs : List (V × PyData)), xs = [.ref a] ∧ (SqL K H a (bs.map (·.1)) ∨ SqT K H a (bs.map (·.1))) ∧ (∀ b ∈ bs, Dp K H b.1 b.2 ∧ b.2.depth ≤ 50) ∧ PySem.W.AllAlike (bs.map (·.2)) ∧ PySem.W.Sortable (bs.map (·.2)) ∧ bs.length ≤ 1000 ∧
  ∀ p, H p = none → Q (.ref p) (upd H p (.lst ((bs.mergeSort (PySem.W.dataLe false fun b : V × PyData => b.2)).map (·.1))))
theorem call_sortedA (hu : X.A.units + 64 < cLine) : CallR X (.builtin "sorted") (rSortedA X.K) := by
  intro pins s σ H xs us Q I r h
  obtain ⟨a, bs, rfl, hs, hd, ha, hk, hz, q⟩ := h
  obtain ⟨u, rfl, ru⟩ := r.one
  obtain rfl : u = Value.ref a := ru
  have hz2 : bs.length ≤ sizeLine := Nat.le_trans hz (by decide)
  have main : ∀ (its : List Value) (T : String) (o : Obj) (n : Nat), (T = "list" ∨ T = "tuple") → s.heap.get? a = some o → o.cls = .type T → o.data = .seq its.toArray n → Vals (bs.map (·.1)) its →
      wpAny (model X.prog X.w) X.A (call (.builtin "sorted") [.ref a]) (EP X pins σ Q) X.xe s := fun its T o n hT ho hc hdt rv => by
    obtain ⟨e1, e2⟩ := eachV I rv fun b hb => (hd b hb).1
    refine sorted_seq (enc := fun b : V × PyData => b.2) hT ho hc hdt e1 e2 ha hk hz2 (fun b hb => ?_) fun h1 h2 out m k1 k2 ho2 lo eo => ?_
    · have := (hd b hb).2
      omega
    · have I1 := I.kept (t' := s.toks) k1
      have fresh : H h1.objs.size = none := I1.hok.fresh (Nat.le_refl _)
      refine ⟨.ref _, _, I1.laid (o := .lst ((bs.mergeSort (PySem.W.dataLe false fun b : V × PyData => b.2)).map (·.1))) (t' := s.toks) k2 (Nat.le_refl _) ⟨?_, out, m, eachVals eo, ho2⟩, rfl, q _ fresh⟩
      rw [List.length_map, List.length_mergeSort]
      exact hz2
  rcases hs with hs | hs
  · obtain ⟨its, rv, hl, _⟩ := I.list hs
    obtain ⟨o, ho, hc, n, hdt⟩ := hl.isList
    exact main its "list" o n (.inl rfl) ho hc hdt rv
  · obtain ⟨its, rv, ht, _⟩ := I.tuple hs
    obtain ⟨o, ho, hc, n, hdt⟩ := ht
    exact main its "tuple" o n (.inr rfl) ho hc hdt rv
end
theorem range_filter {α β : Type} (xs : List α) (p : Nat → Bool) (f : Nat → β) (q : α → Bool) (h : α → β) (e : ∀ k x, xs[k]? = some x → p k = q x ∧ f k = h x) : ((List.range xs.length).filter p).map f = (xs.filter q).map h := by
  have g : ∀ n, n ≤ xs.length → ((List.range n).filter p).map f = ((xs.take n).filter q).map h := by
    intro n
    induction n with
    | zero => intro _; simp
    | succ n ih =>
      intro hn
      have hx : xs[n]? = some xs[n] := List.getElem?_eq_getElem (by omega)
      obtain ⟨e1, e2⟩ := e n _ hx
      rw [List.range_succ, List.filter_append, List.map_append, ih (by omega), List.take_add_one, hx, List.filter_append, List.map_append]
      congr 1
      show ([n].filter p).map f = ([xs[n]].filter q).map h
      cases hp : p n with
      | true => rw [List.filter_cons_of_pos hp, List.filter_cons_of_pos (e1 ▸ hp), List.filter_nil, List.filter_nil, List.map_singleton, List.map_singleton, e2]
      | false => rw [List.filter_cons_of_neg (by rw [hp]; decide), List.filter_cons_of_neg (by rw [← e1, hp]; decide), List.filter_nil, List.filter_nil]; rfl
  have := g xs.length (Nat.le_refl _)
  rw [List.take_length] at this
  exact this
section
variable {K : PySem.W.Frag} {σ : L2.St} {H : Hp} {Q : VK} {tl ta : TA}
theorem k_enumL {R : It → Hp → Prop} (h : ta σ H fun vs H1 => ∃ a xs, vs = [.ref a] ∧ SqL K H1 a xs ∧ R (Ite K a) H1) : iEnum K ta σ H R := h
/-! new objects, told without their heaps -/
theorem upd_tells {H2 : Hp} {p : Addr} {o : HO} (e : upd H p o = H2) (hp : H p = none) : Same H H2 ∧ H2 p = some o := by
  subst e
  exact ⟨Same.upd hp, upd_same⟩
theorem new_tup {xs : List V} (h : ∀ p H2, Same H H2 → H2 p = some (.tup xs) → H p = none → Q (.ref p) H2) : ∀ p, H p = none → Q (.ref p) (upd H p (.tup xs)) := fun p hp => h p _ (Same.upd hp) upd_same hp
theorem new_lst {xs : List V} (h : ∀ p H2, Same H H2 → H2 p = some (.lst xs) → H p = none → Q (.ref p) H2) : ∀ p, H p = none → Q (.ref p) (upd H p (.lst xs)) := fun p hp => h p _ (Same.upd hp) upd_same hp
theorem catT_of {a b : Addr} {xs ys : List V} (ha : H a = some (.tup xs)) (hb : H b = some (.tup ys)) (n1 : xs ≠ []) (n2 : ys ≠ []) (l : xs.length + ys.length ≤ 100000) (h : ∀ p H2, Same H H2 → H2 p = some (.tup (xs ++ ys)) → H p = none → Q (.ref p) H2) : rCatT K (.ref a) (.ref b) H Q :=
  ⟨a, b, xs, ys, rfl, rfl, SqT.of ha, SqT.of hb, n1, Nat.le_trans l (by decide), fun z => absurd z n2, fun _ => new_tup h⟩
theorem catL_of {a b : Addr} {xs ys : List V} (ha : H a = some (.lst xs)) (hb : H b = some (.lst ys)) (l : xs.length + ys.length ≤ 100000) (h : ∀ p H2, Same H H2 → H2 p = some (.lst (xs ++ ys)) → H p = none → Q (.ref p) H2) : rCat (.ref a) (.ref b) H Q :=
  ⟨a, b, xs, ys, rfl, rfl, ha, hb, Nat.le_trans l (by decide), new_lst h⟩
end
end Own

set_option Elab.async false
set_option maxRecDepth 100000
set_option linter.unusedVariables false
/-! what repr tells: how large -/
namespace Own
open PySem PySem.Spec PyProof.Rows L2
theorem ix_tupK {X : Cx} {K : PySem.W.Frag} (h : X.K = K) : IxR X (rIxT K) := by
  subst h
  exact ix_tup
structure Fit (W D : Nat) (d : PyData) : Prop where
  sh : d.showable = true
  la : d.canLay0 = true
  is : d.intsShort 13 = true
  de : d.depth ≤ D
  we : d.weight ≤ W
structure FitA (W D : Nat) (ds : List PyData) : Prop where
  sh : PyData.showableAll ds = true
  la : PyData.canLayAll0 ds = true
  is : PyData.intsShortAll 13 ds = true
  de : PyData.depthAll ds ≤ D
  we : PyData.weightAll ds ≤ W
theorem fit_nil {D : Nat} : FitA 0 D [] := ⟨rfl, rfl, rfl, Nat.zero_le _, Nat.le_refl _⟩
theorem fit_cons {W W' D : Nat} {d : PyData} {ds : List PyData} (a : Fit W D d) (b : FitA W' D ds) : FitA (W + 1 + W') D (d :: ds) := by
  refine ⟨?_, ?_, ?_, ?_, ?_⟩
  · show (_ && _) = true
    rw [a.sh, b.sh]
    rfl
  · show (_ && _) = true
    rw [a.la, b.la]
    rfl
  · show (_ && _) = true
    rw [a.is, b.is]
    rfl
  · show max _ _ ≤ D
    exact Nat.max_le.mpr ⟨a.de, b.de⟩
  · show _ + 1 + _ ≤ _
    have := a.we
    have := b.we
    omega
theorem fit_tup {W D : Nat} {ds : List PyData} (a : FitA W D ds) : Fit W (D + 1) (.tuple ds) := ⟨a.sh, a.la, a.is, Nat.succ_le_succ a.de, a.we⟩
theorem fit_lst {W D : Nat} {ds : List PyData} (a : FitA W D ds) : Fit W (D + 1) (.list ds) := ⟨a.sh, a.la, a.is, Nat.succ_le_succ a.de, a.we⟩
theorem Fit.mono {W W' D D' : Nat} {d : PyData} (a : Fit W D d) (h : W ≤ W') (h2 : D ≤ D') : Fit W' D' d := ⟨a.sh, a.la, a.is, Nat.le_trans a.de h2, Nat.le_trans a.we h⟩
theorem FitA.mono {W W' D D' : Nat} {d : List PyData} (a : FitA W D d) (h : W ≤ W') (h2 : D ≤ D') : FitA W' D' d := ⟨a.sh, a.la, a.is, Nat.le_trans a.de h2, Nat.le_trans a.we h⟩
def RepD (d : PyData) : Prop := d.showable = true ∧ d.depth ≤ 60 ∧ d.shown.length ≤ sizeLine
theorem Fit.repr {W D : Nat} {d : PyData} (f : Fit W D d) (h : W ≤ 1000000) (h2 : D ≤ 60) : RepD d := by
  refine ⟨f.sh, Nat.le_trans f.de h2, ?_⟩
  have hl : d.layable0 = true := by
    show (_ && decide _ && decide _) = true
    have e : (2 : Nat) ^ 20 = 1048576 := by decide
    have := f.de
    have := f.we
    rw [f.la, decide_eq_true (show d.depth ≤ 64 by omega), decide_eq_true (show d.weight ≤ 2 ^ 20 by rw [e]; omega)]
    rfl
  have := PyProof.Rows.shown_le13 hl f.is
  rw [sizeLine_eq]
  omega
theorem fit_str {z : Str} (h : PyData.strOk z = true) (l : z.length ≤ 100) : Fit 1000 0 (.str z) := by
  refine ⟨rfl, h, rfl, Nat.le_refl _, ?_⟩
  show z.cps.size ≤ 1000
  have : z.cps.size = z.length := rfl
  omega
theorem fit_strs : ∀ {zs : List Str}, (∀ z ∈ zs, PyData.strOk z = true ∧ z.length ≤ 100) → FitA (1001 * zs.length) 0 (zs.map .str)
  | [], _ => fit_nil
  | z :: zs, h => (fit_cons (fit_str (h z List.mem_cons_self).1 (h z List.mem_cons_self).2) (fit_strs fun y k => h y (List.mem_cons_of_mem _ k))).mono (by simp only [List.length_cons]; omega) (Nat.le_refl _)
end Own

set_option Elab.async false
set_option maxRecDepth 100000
set_option linter.unusedVariables false
/-! dicts beside texts, tuples, lists: == -/
namespace Own
open PySem PySem.Spec PyProof.Rows L2
open AutoSeq1 (wpAny_loadPart')
open SeqAt
section
variable {a b : Addr} {es : Array DictEntry} {ep n : Nat} {items : Array Value} {d1 d2 : Option Addr} {s1 s2 : Array (Option Value)} {z : Str} {u : Tok}
theorem dict_no_tup : Meets (Builtin.«dict.__eq__» ⟨[.ref a, .ref b], []⟩) (fun _ R s => s.heap.get? a = some { cls := .type "dict", dict := d1, data := .dict es ep, slots := s1 } ∧
    s.heap.get? b = some { cls := .type "tuple", dict := d2, data := .seq items n, slots := s2 } ∧ R (.ok (.ret .notImplemented)) s) :=
  .of_wp fun prog w A R s h => by
    obtain ⟨hp, g, dr, tk, os⟩ := s
    obtain ⟨ha, hb, h⟩ := h
    have f1 := F.sub_tuple_dict
    wp_walk using wpAny_loadPart' ha, wpAny_loadPart' hb
    exact ⟨_, rfl, h⟩
theorem tup_no_dict : Meets (Builtin.«tuple.__eq__» ⟨[.ref b, .ref a], []⟩) (fun _ R s => s.heap.get? a = some { cls := .type "dict", dict := d1, data := .dict es ep, slots := s1 } ∧
    s.heap.get? b = some { cls := .type "tuple", dict := d2, data := .seq items n, slots := s2 } ∧ R (.ok (.ret .notImplemented)) s) :=
  .of_wp fun prog w A R s h => by
    obtain ⟨hp, g, dr, tk, os⟩ := s
    obtain ⟨ha, hb, h⟩ := h
    have f1 := F.sub_dict_tuple
    wp_walk using wpAny_loadPart' ha, wpAny_loadPart' hb
    exact ⟨_, rfl, h⟩
theorem dict_no_str : Meets (Builtin.«dict.__eq__» ⟨[.ref a, .str z u], []⟩) (fun _ R s => s.heap.get? a = some { cls := .type "dict", dict := d1, data := .dict es ep, slots := s1 } ∧ R (.ok (.ret .notImplemented)) s) :=
  .of_wp fun prog w A R s h => by
    obtain ⟨hp, g, dr, tk, os⟩ := s
    obtain ⟨ha, h⟩ := h
    have f1 := F.sub_str_dict
    wp_walk using wpAny_loadPart' ha
    exact ⟨_, rfl, h⟩
theorem str_no_dict : Meets (Builtin.«str.__eq__» ⟨[.str z u, .ref a], []⟩) (fun _ R s => s.heap.get? a = some { cls := .type "dict", dict := d1, data := .dict es ep, slots := s1 } ∧ R (.ok (.ret .notImplemented)) s) :=
  .of_wp fun prog w A R s h => by
    obtain ⟨hp, g, dr, tk, os⟩ := s
    obtain ⟨ha, h⟩ := h
    have f1 := F.sub_dict_str
    wp_walk using wpAny_loadPart' ha, wpAny_load ha
    exact ⟨_, rfl, h⟩
end
end Own

set_option Elab.async false
set_option maxRecDepth 100000
set_option maxHeartbeats 4000000
set_option linter.unusedVariables false
/-! data with two small dicts in it: repr, ==, in -/
namespace Own
open PySem PySem.Spec PyProof.Rows L2
open SeqAt
def keyA : Key := Sum.inr (Str.ofString "a")
mutual
inductive Dq (H : Hp) : V → PyData → Prop
  | non : Dq H .non .none
  | bl (b : Bool) : Dq H (.bl b) (.bool b)
  | int (i : Int) : Dq H (.int i) (.int i)
  | str (x : Str) : Dq H (.str x) (.str x)
  | lst {a : Addr} {xs : List V} {ds : List PyData} : H a = some (.lst xs) → DqAll H xs ds → Dq H (.ref a) (.list ds)
  | tup {a : Addr} {xs : List V} {ds : List PyData} : H a = some (.tup xs) → DqAll H xs ds → Dq H (.ref a) (.tuple ds)
  | d0 {p : Addr} : H p = some (.dK []) → Dq H (.ref p) (.dict [])
  | d1 {p : Addr} : H p = some (.dK [(keyA, .int 1)]) → Dq H (.ref p) (.dict [(.str (Str.ofString "a"), .int 1)])
inductive DqAll (H : Hp) : List V → List PyData → Prop
  | nil : DqAll H [] []
  | cons {v : V} {vs : List V} {d : PyData} {ds : List PyData} : Dq H v d → DqAll H vs ds → DqAll H (v :: vs) (d :: ds)
end
mutual
theorem Dq.same {H H' : Hp} (s : Same H H') : ∀ {d : PyData} {v : V}, Dq H v d → Dq H' v d
  | .none, _, .non => .non
  | .bool _, _, .bl b => .bl b
  | .int _, _, .int i => .int i
  | .str _, _, .str x => .str x
  | .list _, _, .lst h a => .lst (s _ _ h) (DqAll.same s a)
  | .tuple _, _, .tup h a => .tup (s _ _ h) (DqAll.same s a)
  | .dict [], _, .d0 h => .d0 (s _ _ h)
  | .dict [_], _, .d1 h => .d1 (s _ _ h)
theorem DqAll.same {H H' : Hp} (s : Same H H') : ∀ {ds : List PyData} {vs : List V}, DqAll H vs ds → DqAll H' vs ds
  | [], _, .nil => .nil
  | _ :: _, _, .cons a b => .cons (Dq.same s a) (DqAll.same s b)
end
theorem DqAll.len {H : Hp} : ∀ {ds : List PyData} {vs : List V}, DqAll H vs ds → vs.length = ds.length
  | [], _, .nil => rfl
  | _ :: _, _, .cons _ b => congrArg (· + 1) b.len
theorem DqAll.get {H : Hp} : ∀ {ds : List PyData} {vs : List V} {i : Nat} {v : V}, DqAll H vs ds → vs[i]? = some v → ∃ d, ds[i]? = some d ∧ Dq H v d
  | _ :: _, _ :: _, 0, v, .cons a _, e => by
    obtain rfl : _ = v := Option.some.inj e
    exact ⟨_, rfl, a⟩
  | _ :: _, _ :: _, i + 1, v, .cons _ b, e => b.get (i := i) (v := v) e
  | [], [], i, v, .nil, e => by simp at e
theorem DqAll.app {H : Hp} : ∀ {ds es : List PyData} {vs ws : List V}, DqAll H vs ds → DqAll H ws es → DqAll H (vs ++ ws) (ds ++ es)
  | [], _, _, _, .nil, h => h
  | _ :: _, _, _, _, .cons a b, h => .cons a (b.app h)
theorem DqAll.take {H : Hp} : ∀ {ds : List PyData} {vs : List V} (n : Nat), DqAll H vs ds → DqAll H (vs.take n) (ds.take n)
  | _, _, 0, _ => .nil
  | [], _, _ + 1, .nil => .nil
  | _ :: _, _, n + 1, .cons a b => .cons a (b.take n)
theorem DqAll.drop {H : Hp} : ∀ {ds : List PyData} {vs : List V} (n : Nat), DqAll H vs ds → DqAll H (vs.drop n) (ds.drop n)
  | _, _, 0, h => h
  | [], _, _ + 1, .nil => .nil
  | _ :: _, _, n + 1, .cons _ b => b.drop n
theorem DqAll.rev {H : Hp} : ∀ {ds : List PyData} {vs : List V}, DqAll H vs ds → DqAll H vs.reverse ds.reverse
  | [], _, .nil => .nil
  | _ :: _, _, .cons a b => by
    rw [List.reverse_cons, List.reverse_cons]
    exact b.rev.app (.cons a .nil)
theorem DqAll.mem {H : Hp} : ∀ {ds : List PyData} {vs : List V} {d : PyData}, DqAll H vs ds → d ∈ ds → ∃ v, v ∈ vs ∧ Dq H v d
  | _ :: _, _, d, .cons a b, e => by
    rcases List.mem_cons.mp e with rfl | e
    · exact ⟨_, List.mem_cons_self, a⟩
    · obtain ⟨v, h1, h2⟩ := b.mem e
      exact ⟨v, List.mem_cons_of_mem _ h1, h2⟩
/-- address 1 holds a dict -/
def One (K : PySem.W.Frag) : Prop := ∃ o, K.lookup 1 = some o ∧ o.cls = .type "dict"
section
variable {X : Cx} {pins : List (Addr × Obj)} {σ : L2.St} {H : Hp} {s : Shared}
theorem one_ne (I : Inv X pins σ H s) (h : One X.K) {a : Addr} {o : Obj} (ho : s.heap.get? a = some o) (hc : o.cls = .type "list") : sysModules ≠ a := fun e => by
  obtain ⟨o1, k, c⟩ := h
  have := I.kIn _ _ k
  subst e
  have e2 : s.heap.get? 1 = some o := ho
  rw [this] at e2
  obtain rfl := Option.some.inj e2
  rw [hc] at c
  exact absurd c (by decide)
theorem dict0_reads (I : Inv X pins σ H s) {p : Addr} (hp : H p = some (.dK [])) : ∃ as, Reads s.heap (.ref p) (.dict []) as ∧ sysModules ∉ as := by
  obtain ⟨_, low, vs, kv, od, es, ep, g1, ⟨g2, _⟩, g3, _, pr, _⟩ := I.hok p _ hp
  cases kv
  have e : es.toList = [] := by
    match es.toList, pr with
    | [], _ => rfl
  refine ⟨_, .dict (kvs := []) g1 g2 g3 (by rw [e]; exact .nil) (by rw [e]; exact .nil), fun z => ?_⟩
  simp at z
  rw [← z] at low
  exact absurd low (by decide)
theorem dict1_reads (I : Inv X pins σ H s) {p : Addr} (hp : H p = some (.dK [(keyA, .int 1)])) : ∃ as, Reads s.heap (.ref p) (.dict [(.str (Str.ofString "a"), .int 1)]) as ∧ sysModules ∉ as := by
  obtain ⟨_, low, vs, kv, od, es, ep, g1, ⟨g2, _⟩, g3, _, pr, _⟩ := I.hok p _ hp
  match vs, kv with
  | [w], .cons ⟨b1, b2⟩ .nil =>
    obtain ⟨wk, wv⟩ := w
    obtain rfl : keyA = wk := b1
    obtain ⟨t2, rfl⟩ := b2
    obtain ⟨e, he, e1, e2⟩ : ∃ e, es.toList = [e] ∧ (mixKind X.prog X.w).is keyA e.key = true ∧ e.val = .int 1 t2 := by
      match es.toList, pr with
      | [e], .cons c1 c2 .nil => exact ⟨e, rfl, c1, c2⟩
    obtain ⟨t3, e3⟩ : ∃ t3, e.key = Value.str (Str.ofString "a") t3 := by
      revert e1
      generalize e.key = kk
      intro e1
      have e1 : keyIs (Sum.inr (Str.ofString "a")) kk = true := e1
      cases kk with
      | str x t =>
        refine ⟨t, ?_⟩
        have : x = Str.ofString "a" := by
          have e2 : decide (x = Str.ofString "a") = true ∨ decide (Str.ofString "a" = x) = true := by
            first | exact .inl e1 | exact .inr e1
          rcases e2 with e2 | e2
          · exact of_decide_eq_true e2
          · exact (of_decide_eq_true e2).symm
        rw [this]
      | _ => exact absurd e1 (by simp [keyIs, Value.isStrOf])
    refine ⟨_, .dict g1 g2 g3 (by rw [he, List.map_singleton, e3]; exact .cons (.str _ _) .nil) (by rw [he, List.map_singleton, e2]; exact .cons (.int _ _) .nil), fun z => ?_⟩
    simp at z
    rw [← z] at low
    exact absurd low (by decide)
mutual
theorem Dq.reads (I : Inv X pins σ H s) (h1 : One X.K) : ∀ (d : PyData) (v : V) (u : Value), Dq H v d → RelV v u → ∃ as, Reads s.heap u d as ∧ sysModules ∉ as
  | .none, _, _, h, r => by
    cases h
    cases r
    exact ⟨_, Reads.none, List.not_mem_nil⟩
  | .bool b, _, _, h, r => by
    cases h
    cases r
    exact ⟨_, Reads.bool b, List.not_mem_nil⟩
  | .int i, _, _, h, r => by
    cases h
    obtain ⟨t, rfl⟩ := r
    exact ⟨_, Reads.int i t, List.not_mem_nil⟩
  | .str x, _, _, h, r => by
    cases h
    obtain ⟨t, rfl⟩ := r
    exact ⟨_, Reads.str x t, List.not_mem_nil⟩
  | .list ds, _, _, h, r => by
    cases h with
    | lst hs ha =>
      cases r
      obtain ⟨its, rv, ⟨o, n, ho, hc, _, hd⟩, _⟩ := I.list (SqL.of hs)
      obtain ⟨as, hr, hn⟩ := Dq.readsAll I h1 ds _ its ha rv
      refine ⟨_, Reads.list ho hc hd hr, fun z => ?_⟩
      rcases List.mem_cons.mp z with z | z
      · exact one_ne I h1 ho hc z
      · exact hn z
  | .tuple ds, _, _, h, r => by
    cases h with
    | tup hs ha =>
      cases r
      obtain ⟨its, rv, ⟨o, ho, hc, n, hd⟩, _⟩ := I.tuple (SqT.of hs)
      obtain ⟨as, hr, hn⟩ := Dq.readsAll I h1 ds _ its ha rv
      exact ⟨_, Reads.tuple ho hc hd hr, hn⟩
  | .dict _, _, _, h, r => by
    cases h with
    | d0 hp =>
      cases r
      exact dict0_reads I hp
    | d1 hp =>
      cases r
      exact dict1_reads I hp
theorem Dq.readsAll (I : Inv X pins σ H s) (h1 : One X.K) : ∀ (ds : List PyData) (vs : List V) (us : List Value), DqAll H vs ds → Vals vs us → ∃ as, ReadsAll s.heap us ds as ∧ sysModules ∉ as
  | [], _, _, h, r => by
    cases h
    cases r
    exact ⟨_, ReadsAll.nil, List.not_mem_nil⟩
  | d :: ds, _, _, h, r => by
    cases h with
    | cons h2 h3 =>
      cases r with
      | cons r1 r2 =>
        obtain ⟨as, q1, n1⟩ := Dq.reads I h1 d _ _ h2 r1
        obtain ⟨bs, q2, n2⟩ := Dq.readsAll I h1 ds _ _ h3 r2
        exact ⟨_, ReadsAll.cons q1 q2, fun z => (List.mem_append.mp z).elim n1 n2⟩
end
end
/-- repr(x), x data -/
def rReprQ : List V → Hp → VK → Prop := fun xs H Q => ∃ x d, xs = [x] ∧ Dq H x d ∧ RepD d ∧ Q (.str d.shown) H
theorem call_reprQ {X : Cx} (qt : Quiet X.A) (hu : X.A.units + 64 < cLine) (h1 : One X.K) : CallR X (.builtin "repr") rReprQ := by
  intro pins s σ H xs us Q I rv h
  obtain ⟨x, d, rfl, hd, ⟨hs, hz, hl⟩, q⟩ := h
  obtain ⟨u, rfl, rx⟩ : ∃ u, us = [u] ∧ RelV x u := by
    cases rv with
    | cons a b =>
      cases b
      exact ⟨_, rfl, a⟩
  obtain ⟨as, rd, na⟩ := Dq.reads I h1 d x u hd rx
  cases hd with
  | non =>
    cases rx
    exact P.repr_of_none ⟨.str "None", H, I.tok _, ⟨_, rfl⟩, q⟩
  | bl b =>
    cases rx
    exact P.repr_of_bool ⟨.str (if b then "True" else "False"), H, I.tok _, ⟨_, rfl⟩, q⟩
  | int i =>
    obtain ⟨t, rfl⟩ := rx
    refine P.repr_of_int ?_ ⟨.str (toString i), H, I.tok _, ⟨_, rfl⟩, q⟩
    simpa [PyData.showable] using hs
  | str y =>
    obtain ⟨t, rfl⟩ := rx
    exact P.repr_of_str ⟨.str (reprText y), H, I.tok _, ⟨_, rfl⟩, q⟩ hl
  | lst _ _ =>
    cases rx
    exact repr_of_reads' rd hs (fun _ => na) qt (by omega) (fun _ _ z => z) (fun h' w tk k => ⟨.str _, H, I.kept k, ⟨_, rfl⟩, q⟩) hl
  | tup _ _ =>
    cases rx
    exact repr_of_reads' rd hs (fun _ => na) qt (by omega) (fun _ _ z => z) (fun h' w tk k => ⟨.str _, H, I.kept k, ⟨_, rfl⟩, q⟩) hl
  | d0 _ =>
    cases rx
    exact repr_of_reads' rd hs (fun _ => na) qt (by omega) (fun _ _ z => z) (fun h' w tk k => ⟨.str _, H, I.kept k, ⟨_, rfl⟩, q⟩) hl
  | d1 _ =>
    cases rx
    exact repr_of_reads' rd hs (fun _ => na) qt (by omega) (fun _ _ z => z) (fun h' w tk k => ⟨.str _, H, I.kept k, ⟨_, rfl⟩, q⟩) hl
end Own

set_option Elab.async false
set_option maxRecDepth 100000
set_option maxHeartbeats 4000000
set_option linter.unusedVariables false
/-! any data: x == (), x != [], x in a tuple of texts, its type -/
namespace Own
open PySem PySem.Spec PyProof.Rows L2
open SeqAt MeetsSeq
def DictAt (h : Heap) (a : Addr) : Prop := ∃ o es ep, h.get? a = some o ∧ o.cls = .type "dict" ∧ o.data = .dict es ep
section
variable {A : Around} {s : Shared} {a b : Addr} {items : Array Value}
theorem rc_dict_tup (ha : DictAt s.heap a) (hb : s.heap.IsTuple b items) (hu : A.units < cLine) : RcAt A s (.ref a) (.ref b) false := fun prog w E Q h => by
  obtain ⟨⟨c1, d1, t1, s1⟩, es, ep, g1, e1, f1⟩ := ha
  obtain ⟨⟨c2, d2, t2, s2⟩, g2, e2, n, f2⟩ := hb
  simp only at e1 f1 e2 f2
  subst e1 f1 e2 f2
  have ne : a ≠ b := fun e => by
    subst e
    rw [g1] at g2
    have c := congrArg Obj.cls (Option.some.inj g2)
    exact absurd c (by simp)
  exact rc_eq_decline_or (k := false) ⟨_, g1, rfl⟩ ⟨_, g2, rfl⟩ (by decide) F.sub_tuple_dict F.slot_dict_eq F.slot_tuple_eq_refl
    (fun _ q => call_meets F.slot_dict_eq ⟨_, g1, rfl⟩ F.entry_dict_eq (F.args_dict_eq_2 _ _) dict_no_tup ⟨g1, g2, q⟩)
    (fun _ q => call_meets F.slot_tuple_eq_refl ⟨_, g2, rfl⟩ F.entry_tuple_eq (F.args_tuple_eq_2 _ _) tup_no_dict ⟨g1, g2, q⟩)
    (fun _ q => wpAny_isSame_ref_other ne g1 g2 (by simp) q) (.inr hu) h
theorem rc_str_dict (z : Str) (u : Tok) (ha : DictAt s.heap a) (hu : A.units < cLine) : RcAt A s (.str z u) (.ref a) false := fun prog w E Q h => by
  obtain ⟨⟨c1, d1, t1, s1⟩, es, ep, g1, e1, f1⟩ := ha
  simp only at e1 f1
  subst e1 f1
  exact rc_eq_decline_or (k := false) (typeIs_str s z u) ⟨_, g1, rfl⟩ (by decide) F.sub_dict_str F.slot_str_eq F.slot_dict_eq_refl
    (fun _ q => call_meets F.slot_str_eq (typeIs_str s z u) F.entry_str_eq (F.args_str_eq_2 _ _) str_no_dict ⟨g1, q⟩)
    (fun _ q => call_meets F.slot_dict_eq_refl ⟨_, g1, rfl⟩ F.entry_dict_eq (F.args_dict_eq_2 _ _) dict_no_str ⟨g1, q⟩)
    (fun _ q => wpAny_of_eq (rfl : isSame (.str z u) (.ref a) = pure false) q) (.inr hu) h
theorem eq_str_dict (z : Str) (u : Tok) (ha : DictAt s.heap a) (hu : A.units < cLine) : EqAt A s (.str z u) (.ref a) false := fun prog w E Q h => by
  unfold eqBool
  refine wpAny_holding (wpAny_ite_split (fun e => absurd (eq_of_beq e) nofun) fun _ => wpAny_bind (rc_str_dict z u ha hu prog w E _ (wpAny_truthy_bool h)))
end
section
variable {X : Cx} {pins : List (Addr × Obj)} {σ : L2.St} {H : Hp} {s : Shared}
theorem dict_at (I : Inv X pins σ H s) {p : Addr} {kvs : List (Key × V)} (hp : H p = some (.dK kvs)) : DictAt s.heap p := by
  obtain ⟨_, low, vs, kv, od, es, ep, g1, ⟨g2, _⟩, g3, _, pr, _⟩ := I.hok p _ hp
  exact ⟨_, _, _, g1, g2, g3⟩
theorem is_list (I : Inv X pins σ H s) {p : Addr} {xs : List V} (hp : SqL X.K H p xs) : ∃ its : List Value, Vals xs its ∧ s.heap.IsList p its.toArray := by
  obtain ⟨its, rv, ⟨o, n, ho, hc, _, hd⟩, _⟩ := I.list hp
  exact ⟨its, rv, o, ho, hc, n, hd⟩
theorem is_tuple' (I : Inv X pins σ H s) {p : Addr} {xs : List V} (hp : SqT X.K H p xs) : ∃ its : List Value, Vals xs its ∧ s.heap.IsTuple p its.toArray := by
  obtain ⟨its, rv, ⟨o, ho, hc, n, hd⟩, _⟩ := I.tuple hp
  exact ⟨its, rv, o, ho, hc, n, hd⟩
end
def tup0 : PyData → Bool
  | .tuple [] => true
  | _ => false
/-- x == () -/
def rEqT0 (K : PySem.W.Frag) : R2 := fun x y H Q => ∃ d a, Dq H x d ∧ y = .ref a ∧ SqT K H a [] ∧ Q (.bl (tup0 d)) H
theorem op_eqT0 {X : Cx} (hu : X.A.units + 64 < cLine) : OpR X (compareOp .Eq) (rEqT0 X.K) := by
  intro pins s σ H x y v u Q I rx ry h
  obtain ⟨d, a, hd, rfl, ha, q⟩ := h
  obtain rfl : u = Value.ref a := ry
  obtain ⟨its, r0, ht⟩ := is_tuple' I ha
  cases r0
  have hu' : X.A.units < cLine := by omega
  have go : ∀ {b : Bool}, RcAt X.A s v (.ref a) b → Q (.bl b) H → wpAny (model X.prog X.w) X.A (compareOp .Eq v (.ref a)) (EP X pins σ Q) X.xe s := fun r q => r _ _ _ _ ⟨.bl _, H, I, rfl, q⟩
  cases hd with
  | non =>
    cases rx
    exact go (.none_tuple ht hu') q
  | bl b =>
    cases rx
    exact go (.bool_tuple b ht hu') q
  | int i =>
    obtain ⟨t, rfl⟩ := rx
    exact go (.int_tuple i t ht hu') q
  | str z =>
    obtain ⟨t, rfl⟩ := rx
    exact go (.str_tuple z t ht hu') q
  | lst hs ha2 =>
    cases rx
    obtain ⟨js, r1, hl⟩ := is_list I (SqL.of hs)
    exact go (.list_tuple hl ht hu') q
  | @tup c xs ds hs ha2 =>
    cases rx
    obtain ⟨js, r1, hl⟩ := is_tuple' I (SqT.of hs)
    refine go (.tuples (e := fun _ => true) hl ht hu' fun j _ z => absurd z (Nat.not_lt_zero j)) ?_
    have e : ((List.range (min js.toArray.size (#[] : Array Value).size)).all (fun _ => true) && js.toArray.size == (#[] : Array Value).size) = tup0 (.tuple ds) := by
      have l := ha2.len
      have l2 := r1.length
      cases ds with
      | nil =>
        obtain rfl : js = [] := List.eq_nil_of_length_eq_zero (by rw [← l2, l]; rfl)
        rfl
      | cons d ds =>
        cases js with
        | nil =>
          rw [l] at l2
          cases l2
        | cons j js => simp [tup0]
    exact e ▸ q
  | d0 hp =>
    cases rx
    exact go (rc_dict_tup (dict_at I hp) ht hu') q
  | d1 hp =>
    cases rx
    exact go (rc_dict_tup (dict_at I hp) ht hu') q
/-- xs != [], xs == [], xs any list -/
def rNeL0 (K : PySem.W.Frag) : R2 := fun x y H Q => ∃ a b xs, x = .ref a ∧ y = .ref b ∧ SqL K H a xs ∧ SqL K H b [] ∧ Q (.bl (!xs.isEmpty)) H
def rEqL0 (K : PySem.W.Frag) : R2 := fun x y H Q => ∃ a b xs, x = .ref a ∧ y = .ref b ∧ SqL K H a xs ∧ SqL K H b [] ∧ Q (.bl xs.isEmpty) H
theorem op_neL0 {X : Cx} (hu : X.A.units + 64 < cLine) : OpR X (compareOp .NotEq) (rNeL0 X.K) := by
  intro pins s σ H x y v u Q I rx ry h
  obtain ⟨a, b, xs, rfl, rfl, ha, hb, q⟩ := h
  obtain rfl : v = Value.ref a := rx
  obtain rfl : u = Value.ref b := ry
  obtain ⟨its, r0, ht⟩ := is_list I hb
  obtain ⟨js, r1, hl⟩ := is_list I ha
  cases r0
  have hu' : X.A.units < cLine := by omega
  cases r1 with
  | nil => exact RcNeAt.lists (e := fun _ => true) hl ht rfl hu' (fun j _ z => absurd z (Nat.not_lt_zero j)) _ _ _ _ ⟨.bl _, H, I, rfl, q⟩
  | cons r1 r2 => exact RcNeAt.lists_lengths hl ht (by simp) hu' _ _ _ _ ⟨.bl _, H, I, rfl, q⟩
theorem op_eqL0 {X : Cx} (hu : X.A.units + 64 < cLine) : OpR X (compareOp .Eq) (rEqL0 X.K) := by
  intro pins s σ H x y v u Q I rx ry h
  obtain ⟨a, b, xs, rfl, rfl, ha, hb, q⟩ := h
  obtain rfl : v = Value.ref a := rx
  obtain rfl : u = Value.ref b := ry
  obtain ⟨its, r0, ht⟩ := is_list I hb
  obtain ⟨js, r1, hl⟩ := is_list I ha
  cases r0
  have hu' : X.A.units < cLine := by omega
  cases r1 with
  | nil => exact RcAt.lists (e := fun _ => true) hl ht rfl hu' (fun j _ z => absurd z (Nat.not_lt_zero j)) _ _ _ _ ⟨.bl _, H, I, rfl, q⟩
  | cons r1 r2 => exact RcAt.lists_lengths hl ht (by simp) hu' _ _ _ _ ⟨.bl _, H, I, rfl, q⟩
def isIn (d : PyData) (zs : List Str) : Bool := match d with
  | .str z => decide (z ∈ zs)
  | _ => false
/-- x in (..), texts -/
def rInQ (K : PySem.W.Frag) : R2 := fun x y H Q => ∃ d a zs, Dq H x d ∧ y = .ref a ∧ SqT K H a (zs.map V.str) ∧ Q (.bl (isIn d zs)) H
theorem vals_strs {zs : List Str} {its : List Value} (r : Vals (zs.map V.str) its) : ∀ y ∈ its, ∃ z t, y = Value.str z t := by
  induction zs generalizing its with
  | nil =>
    cases r
    intro y hy
    cases hy
  | cons z zs ih =>
    cases r with
    | cons r1 r2 =>
      intro y hy
      rcases List.mem_cons.mp hy with rfl | hy
      · obtain ⟨t, rfl⟩ := r1
        exact ⟨_, _, rfl⟩
      · exact ih r2 y hy
theorem any_strs {zs : List Str} {its : List Value} (r : Vals (zs.map V.str) its) (x : Str) : its.any (fun y => match y with | .str z _ => z == x | _ => false) = decide (x ∈ zs) := by
  induction zs generalizing its with
  | nil =>
    cases r
    rfl
  | cons z zs ih =>
    cases r with
    | cons r1 r2 =>
      obtain ⟨t, rfl⟩ := r1
      rw [List.any_cons, ih r2]
      by_cases e : z = x
      · subst e
        simp
      · have : x ≠ z := fun h => e h.symm
        simp [e, this]
theorem op_inQ {X : Cx} (hu : X.A.units + 64 < cLine) : OpR X (compareOp .In) (rInQ X.K) := by
  intro pins s σ H x y v u Q I rx ry h
  obtain ⟨d, a, zs, hd, rfl, ha, q⟩ := h
  obtain rfl : u = Value.ref a := ry
  obtain ⟨its, r0, ht⟩ := is_tuple' I ha
  have hu' : X.A.in1.units < cLine := by show X.A.units + 1 < cLine; omega
  have go : ∀ (e : Value → Bool), (∀ z t, EqAt X.A.in1 s (.str z t) v (e (.str z t))) → its.any e = isIn d zs → wpAny (model X.prog X.w) X.A (compareOp .In v (.ref a)) (EP X pins σ Q) X.xe s := fun e he h => by
    refine in_tupleAt e ht (fun y hy => ?_) ⟨.bl (isIn d zs), H, I, ?_, q⟩
    · obtain ⟨z, t, rfl⟩ := vals_strs r0 y (by simpa using hy)
      exact he z t
    · have h2 : its.toArray.any e = isIn d zs := by rw [List.any_toArray]; exact h
      rw [h2]
      rfl
  have no : (∀ z t, EqAt X.A.in1 s (.str z t) v false) → isIn d zs = false → wpAny (model X.prog X.w) X.A (compareOp .In v (.ref a)) (EP X pins σ Q) X.xe s := fun he h => go (fun _ => false) he (by rw [h]; simp)
  cases hd with
  | non =>
    cases rx
    exact no (fun z t => .str_none z t) rfl
  | bl b =>
    cases rx
    exact no (fun z t => .str_bool z t b) rfl
  | int i =>
    obtain ⟨t, rfl⟩ := rx
    exact no (fun z t' => .str_int z t' i t) rfl
  | str z =>
    obtain ⟨t, rfl⟩ := rx
    exact go (fun y => match y with | .str z' _ => z' == z | _ => false) (fun z' t' => .str_str z' t' z t) (any_strs r0 z)
  | lst hs ha2 =>
    cases rx
    obtain ⟨js, r1, hl⟩ := is_list I (SqL.of hs)
    exact no (fun z t => .str_list z t hl hu') rfl
  | tup hs ha2 =>
    cases rx
    obtain ⟨js, r1, hl⟩ := is_tuple' I (SqT.of hs)
    exact no (fun z t => .str_tuple z t hl hu') rfl
  | d0 hp =>
    cases rx
    exact no (fun z t => eq_str_dict z t (dict_at I hp) hu') rfl
  | d1 hp =>
    cases rx
    exact no (fun z t => eq_str_dict z t (dict_at I hp) hu') rfl
/-! its type -/
def kindOf : PyData → String
  | .none => "NoneType"
  | .bool _ => "bool"
  | .int _ => "int"
  | .str _ => "str"
  | .list _ => "list"
  | .tuple _ => "tuple"
  | _ => "dict"
theorem Dq.ty {K : PySem.W.Frag} {H : Hp} {d : PyData} {v : V} (h : Dq H v d) : TyX K H v (.type (kindOf d)) := by
  cases h with
  | non => exact .base .non
  | bl b => exact .base (.bl b)
  | int i => exact .base (.int i)
  | str z => exact .base (.str z)
  | lst h _ => exact .base (.lst h)
  | tup h _ => exact .base (.tup h)
  | d0 h => exact .base (.dK h)
  | d1 h => exact .base (.dK h)
end Own

set_option Elab.async false
set_option maxRecDepth 100000
set_option maxHeartbeats 4000000
set_option linter.unusedVariables false
/-! sets of texts that can be walked: set(xs), sorted(set(xs)) -/
namespace Own
open PySem PySem.Spec PyProof.Rows L2
open PySem.Froz (SD sObj TxOk addTx tailTx)
/-- the table rises and can be walked -/
structure TabOk (w : World) (D : SD) : Prop where
  ris : Ris D.2.2.place.toList
  led : w.params.followText "set-order" = true ∨ D.2.2.led = true
theorem tab_tail {w : World} {ep : Nat} {es : Array (Int × Value)} {t : SetTable} {b : Bool} (r : Ris t.place.toList) (l : w.params.followText "set-order" = true ∨ t.led = true) : TabOk w (tailTx ep es t b) := by
  unfold tailTx
  split
  · exact ⟨relayAll_ris _ _ _, l.imp id fun z => (relayAll_led _ _ _).trans z⟩
  · exact ⟨r, l⟩
theorem tab_add {w : World} {D : SD} (g : TabOk w D) (h : Int) (x : Value) : TabOk w (addTx h x D) := by
  have r := layNew_ris D.2.2 D.1 h x g.ris
  have l := g.led.imp id fun z => (layNew_led D.2.2 D.1 h x).trans z
  unfold addTx
  refine tab_tail ?_ ?_
  · split
    · exact r
    · exact r
  · split
    · exact l
    · exact l
/-- the set of texts at p: l, each once -/
def TxSet (P : Program) (w : World) (h : Heap) (p : Addr) (l : List Str) : Prop := ∃ D, h.get? p = some (sObj "set" D) ∧ TxOk P w D l ∧ l.Nodup ∧ TabOk w D
theorem TxSet.at {P : Program} {w : World} {h h' : Heap} {p : Addr} {l : List Str} (T : TxSet P w h p l) (k : ∀ o, h.get? p = some o → h'.get? p = some o) : TxSet P w h' p l := by
  obtain ⟨D, g, r⟩ := T
  exact ⟨D, k _ g, r⟩
section
variable {P : Program} {w : World} {A : Around} {E : Value → Shared → Prop} {s : Shared}
theorem tx_has {p : Addr} {D : SD} {l : List Str} {z : Str} {u : Tok} {Q : Bool → Shared → Prop} (g : s.heap.get? p = some (sObj "set" D)) (F : TxOk P w D l) (hz : z ∈ l) (room : l.length < scanBound) (q : Q false s) :
    wpAny (model P w) A (setAddHashed p (.str z u) (hashStr w z)) Q E s := by
  obtain ⟨es, ep, t⟩ := D
  have is1 : (strKind P w).is z (.str z u) = true := PySem.Froz.is_str z u
  have few : es.size < scanBound := by have e : es.size = l.length := F.sz; omega
  obtain ⟨j, hj⟩ : ∃ j, List.findIdx? (fun e => (strKind P w).is z e.2) es.toList = some j := by
    cases c : List.findIdx? (fun e => (strKind P w).is z e.2) es.toList with
    | some j => exact ⟨j, rfl⟩
    | none =>
      obtain ⟨e, he, y⟩ := (F.mem z).mp hz
      have n := List.findIdx?_eq_none_iff.mp c e he
      rw [y] at n
      cases n
  unfold setAddHashed setAddHashedIn
  refine wpAny_holding (wpAny_bind (wpAny_setState_of g rfl F.fit ?_))
  dsimp only
  rw [byScan_of (knd := strKind P w) rfl few F.el]
  simp only [↓reduceIte]
  unfold setAddByScan
  refine wpAny_bind (wpAny_bind (wpAny_rule (wpAny_bind (wpAny_setScan_of (knd := strKind P w) (k := z) is1 g rfl F.fit F.el ?_))))
  rw [hj]
  exact wpAny_pure (wpAny_pure q)
theorem tx_add {p : Addr} {l : List Str} {z : Str} {u : Tok} {Q : Bool → Shared → Prop} (T : TxSet P w s.heap p l) (room : l.length + 1 < scanBound)
    (q : ∀ h' l' b, Heap.SameBut p s.heap h' → TxSet P w h' p l' → (∀ y, y ∈ l' ↔ y ∈ l ∨ y = z) → l'.length ≤ l.length + 1 → Q b { s with heap := h' }) :
    wpAny (model P w) A (setAddHashed p (.str z u) (hashStr w z)) Q E s := by
  obtain ⟨D, g, F, nd, t⟩ := T
  by_cases hz : z ∈ l
  · exact tx_has g F hz (by omega) (q s.heap l false (Heap.SameBut.refl p s.heap) ⟨D, g, F, nd, t⟩ (fun y => ⟨.inl, fun h => h.elim id fun e => e ▸ hz⟩) (Nat.le_succ _))
  · refine PySem.Froz.add_x g F hz room (q _ (z :: l) true (Heap.SameBut.update _ p _) ⟨_, PySem.Froz.get_upd _ g rfl, PySem.Froz.add_ok u F, List.nodup_cons.mpr ⟨hz, nd⟩, tab_add t _ _⟩ (fun y => ?_) (by simp))
    rw [List.mem_cons]
    exact Or.comm
theorem tx_new {w : World} {P : Program} {h : Heap} {p : Addr} (g : h.get? p = some (setO0 w)) : TxSet P w h p [] := by
  refine ⟨(#[], 0, .fresh 0 0 (!w.params.followText "set-order")), g, PySem.Froz.TxOk.nil (fits_nil _ _ _ _ _), List.nodup_nil, .nil, ?_⟩
  cases w.params.followText "set-order"
  · exact .inr rfl
  · exact .inl rfl
end
section
variable {P : Program} {w : World} {A : Around} {R : Result → Shared → Prop} {it : Addr} {fp wr : List Addr} {G : Array GenState → Array GenState → Prop} {n : Nat} {Pv : Nat → Value → Prop} {St : Nat → Shared → Prop} {zs : List Str}
/-- the members of l are those of zs -/
def Mem (l zs : List Str) : Prop := ∀ y, y ∈ l ↔ y ∈ zs
theorem tx_loop (W : WalksS P w A.in1 it fp wr G n Pv St) (S : Addr) (nS : S ∉ fp) (hn : zs.length = n) (room : n + 1 < scanBound) (val : ∀ i v, Pv i v → ∃ z t, zs[i]? = some z ∧ v = Value.str z t) :
    ∀ (left i : Nat) (l : List Str) (s : Shared), n - i = left → i ≤ n → St i s → l.length ≤ i → Mem l (zs.take i) → TxSet P w s.heap S l →
      (∀ s' l', Moved (S :: wr) G s s' → Mem l' zs → TxSet P w s'.heap S l' → R (.ok (.ret .none)) s') →
      codeAny (model P w) A (.builtin "set.update.loop" ⟨[.ref S, .ref it], []⟩) R s := by
  have mw : ∀ b ∈ wr, b ∈ S :: wr := fun b hb => List.mem_cons_of_mem _ hb
  have nw : S ∉ wr := fun z => nS (W.sub _ z)
  have stay : ∀ {s s' : Shared} {l : List Str}, Moved wr G s s' → TxSet P w s.heap S l → TxSet P w s'.heap S l := fun m q => q.at fun o e => m.heap S o nw e
  intro left
  induction left with
  | zero =>
    intro i l s hk hi st hl hc hS k
    obtain rfl : i = n := by omega
    rw [List.take_of_length_le (by omega)] at hc
    refine codeAny_builtin F.entry_set_update_loop ?_
    rw [Around.under_plainId F.plain_set_update_loop _]
    refine wpAny_bind (m := pyNext (.ref it)) (W.done s _ _ st fun s' m => ?_)
    exact wpAny_pure (k s' l (m.mono mw) hc (stay m hS))
  | succ left ih =>
    intro i l s hk hi st hl hc hS k
    refine codeAny_builtin F.entry_set_update_loop ?_
    rw [Around.under_plainId F.plain_set_update_loop _]
    refine wpAny_bind (m := pyNext (.ref it)) (W.item i s _ _ (by omega) st fun v s' hv st' m => ?_)
    obtain ⟨z, t, hz, rfl⟩ := val i v hv
    have hS1 := stay m hS
    refine wpAny_bind (m := holding [Value.str z t] (setAdd S (.str z t))) (wpAny_holding ?_)
    unfold setAdd
    refine wpAny_holding (wpAny_bind ((strKind P w).pyHash (k := z) (PySem.Froz.is_str z t) ?_))
    refine tx_add (s := { s' with toks := s'.toks + 1 }) hS1 (by omega) fun h' l' _ sb hS2 hm hl' => ?_
    have hc3 : Mem l' (zs.take (i + 1)) := fun y => by
      rw [hm y, hc y, List.take_add_one, hz]
      simp
    have off : ∀ b ∈ fp, b ≠ S := fun b hb e => nS (e ▸ hb)
    refine wpAny_pure ⟨plainId_quiet F.plain_set_update_loop _, ih (i + 1) _ _ (by omega) (by omega) (W.frame _ s' _ _ st' (Nat.le_succ _) fun b hb o e => (sb.2 b (off b hb)).trans e) (by omega) hc3 hS2 fun s2 l2 m2 hc2 hS4 => ?_⟩
    refine k s2 l2 (Moved.trans W.gtrans ((m.mono mw).then_heap (Nat.le_succ _) fun b o hb e => ?_) m2) hc2 hS4
    exact (sb.2 b fun e2 => hb (e2 ▸ List.mem_cons_self)).trans e
end
section
open PySem.W
variable {P : Program} {w : World} {A : Around} {E : Value → Shared → Prop} {s : Shared} {zs : List Str} {l : Addr} {items : Array Value}
/-- set.__init__ over an iterator of texts -/
theorem tx_init {S : Addr} {ocl : String} {od : Option Addr} {nn : Nat} {osl : Array (Option Value)} (tyS : ocl = "list" ∨ ocl = "tuple") (hh : A.handled = none) (hol : s.heap.get? l = some { cls := .type ocl, dict := od, data := .seq items nn, slots := osl }) (hS : s.heap.get? S = some (setO0 w)) (ne : l ≠ S)
    (val : ∀ (i : Nat) (v : Value), items[i]? = some v → ∃ z t, zs[i]? = some z ∧ v = Value.str z t) (hn : zs.length = items.size) (room : zs.length ≤ 4000) {Q : Unit → Shared → Prop}
    (h : ∀ h' tk l', Mem l' zs → TxSet P w h' S l' → (∀ b o, b ≠ S → s.heap.get? b = some o → h'.get? b = some o) → Q () { s with heap := h', toks := tk }) :
    wpAny (model P w) A (Builtin.Frozenset.updateFrom "set.__init__" S (.ref l)) Q E s := by
  have a1 := F.sub_list_set
  have a2 := F.sub_list_frozenset
  have a3 := F.sub_tuple_set
  have a4 := F.sub_tuple_frozenset
  have a5 : (Value.type "list" == Value.type "dict") = false := by decide
  have a6 : (Value.type "tuple" == Value.type "dict") = false := by decide
  have S0 : TxSet P w s.heap S [] := tx_new hS
  have lS : S < s.heap.objs.size := Heap.lt_size hS
  have ll : l < s.heap.objs.size := Heap.lt_size hol
  have sb : scanBound = 4096 := rfl
  have done : ∀ (io : Obj) (s' : Shared) (l' : List Str) (G : Array GenState → Array GenState → Prop), (∀ a b, G a b → b = a) → Moved (S :: [s.heap.objs.size]) G { s with heap := s.heap.push io } s' → Mem l' zs → TxSet P w s'.heap S l' → Q () s' := by
    intro io s' l' G hG m hc hS'
    obtain ⟨h', g2, d', tk', os'⟩ := s'
    have e1 : g2 = s.gens := hG _ _ m.gens
    have e2 : d' = s.drawn := m.drawn
    have e3 : os' = s.os := m.os
    subst e1 e2 e3
    refine h h' tk' l' hc hS' fun b o hb e => m.heap b o (fun z => ?_) (Heap.get?_push_of_some _ e)
    rcases List.mem_cons.mp z with z | z
    · exact hb z
    · exact Nat.ne_of_lt (Heap.lt_size e) (List.mem_singleton.mp z)
  rcases tyS with rfl | rfl
  · have hl : s.heap.IsList l items := ⟨_, hol, rfl, nn, rfl⟩
    unfold Builtin.Frozenset.updateFrom
    generalize hPI : pyIter = PI
    wp_walk
    subst hPI
    refine wpAny_pyIter_list hl (wpAny_bind (wpAny_runValue ?_))
    refine tx_loop (zs := zs) ((Walks.list (A := A.in1) hh s.heap.objs.size l (Nat.ne_of_lt ll) items).toS) S (fun z => ?_) hn (by omega) val (items.size - 0) 0 [] _ rfl (Nat.zero_le _) ⟨⟨_, Heap.get?_push_size _ rfl, rfl, rfl⟩, hl.push _⟩ (Nat.zero_le _) (fun y => Iff.rfl)
      (S0.at fun o e => Heap.get?_push_of_some _ e) fun s' l' m hc hS' => wpAny_pure (done _ s' l' _ (fun _ _ z => z) m hc hS')
    rcases List.mem_cons.mp z with z | z
    · exact Nat.ne_of_lt lS z
    · exact ne (List.mem_singleton.mp z).symm
  · have hl : s.heap.IsTuple l items := ⟨_, hol, rfl, nn, rfl⟩
    unfold Builtin.Frozenset.updateFrom
    generalize hPI : pyIter = PI
    wp_walk
    subst hPI
    refine wpAny_pyIter_tuple hl (wpAny_bind (wpAny_runValue ?_))
    refine tx_loop (zs := zs) ((Walks.tuple (A := A.in1) hh s.heap.objs.size l (Nat.ne_of_lt ll) items).toS) S (fun z => ?_) hn (by omega) val (items.size - 0) 0 [] _ rfl (Nat.zero_le _) ⟨⟨_, Heap.get?_push_size _ rfl, rfl, rfl⟩, hl.push _⟩ (Nat.zero_le _) (fun y => Iff.rfl)
      (S0.at fun o e => Heap.get?_push_of_some _ e) fun s' l' m hc hS' => wpAny_pure (done _ s' l' _ (fun _ _ z => z) m hc hS')
    rcases List.mem_cons.mp z with z | z
    · exact Nat.ne_of_lt lS z
    · exact ne (List.mem_singleton.mp z).symm
set_option maxHeartbeats 3200000 in
theorem call_set_tx {ocl : String} {od : Option Addr} {nn : Nat} {osl : Array (Option Value)} (tyS : ocl = "list" ∨ ocl = "tuple") (hh : A.handled = none) (hol : s.heap.get? l = some { cls := .type ocl, dict := od, data := .seq items nn, slots := osl })
    (val : ∀ (i : Nat) (v : Value), items[i]? = some v → ∃ z t, zs[i]? = some z ∧ v = Value.str z t) (hn : zs.length = items.size) (room : zs.length ≤ 4000) {Q : Value → Shared → Prop}
    (h : ∀ h' tk l', Mem l' zs → TxSet P w h' s.heap.objs.size l' → (∀ b o, s.heap.get? b = some o → h'.get? b = some o) → Q (.ref s.heap.objs.size) { s with heap := h', toks := tk }) :
    wpAny (model P w) A (call (.type "set") [.ref l]) Q E s := by
  let S := s.heap.objs.size
  let hp0 := s.heap.push (setO0 w)
  have hnew : hp0.get? S = some (setO0 w) := Heap.get?_push_size _ rfl
  have hold : ∀ b o, s.heap.get? b = some o → hp0.get? b = some o := fun b o e => Heap.get?_push_of_some _ e
  have ne : l ≠ S := Nat.ne_of_lt (Heap.lt_size hol)
  have ty0 : Shared.TypeIs { s with heap := hp0 } (.ref S) "set" := ⟨_, hnew, rfl⟩
  obtain ⟨c, tl, hmro⟩ := F.called_set.mro
  have m1 := F.called_set.made
  have m2 := F.called_set.sub
  have m3 := F.called_set.notType
  have m4 := F.called_set.canCreate
  have m5 := F.typeCall_set_1 (.ref l)
  have m6 := F.called_set.init.lookup
  have m7 := F.called_set.init.bind (.ref S)
  refine wpAny_call (codeAny_of_tree ?_)
  show wpAny _ _ (callAny (.type "set") _) _ _ _
  refine wpAny_pure ⟨Code.quiet_builtin _ (by decide +kernel), codeAny_builtin F.entry_type_call ?_⟩
  rw [Around.under_plain (weight_type_call_type "set" [.ref l] []) rfl]
  repeat (any_goals (first | assumption | wp_step))
  refine codeAny_mono (code_set_led1 (.ref l) (E := E) (Q₁ := fun r s1 => r = .ref S ∧ s1 = { s with heap := hp0 }) ⟨rfl, rfl⟩) fun r s1 hr => ?_
  match r, hr with
  | .error e, hr => exact hr
  | .ok .next, hr => exact hr.elim
  | .ok .brk, hr => exact hr.elim
  | .ok .cont, hr => exact hr.elim
  | .ok (.ret u), hr =>
    obtain ⟨rfl, rfl⟩ := hr
    repeat (any_goals (first | assumption | wp_step))
    refine codeAny_mono (codeAny_call_builtin (R := wants (fun r s2 => r = .none ∧ ∃ h' tk l', s2 = { s with heap := h', toks := tk } ∧ Mem l' zs ∧ TxSet P w h' S l' ∧ ∀ b o, b ≠ S → hp0.get? b = some o → h'.get? b = some o) E)
      F.called_set.init.plain F.entry_set_init (check_set_init_1 ty0 ?_)) fun r2 s2 hr2 => ?_
    · unfold Builtin.«set.__init__» noKeywords
      generalize hU : Builtin.Frozenset.updateFrom = U
      wp_walk
      subst hU
      refine tx_init (s := { s with heap := hp0 }) (zs := zs) tyS (by simpa using hh) (hold _ _ hol) hnew ne val hn room fun h' tk c hc hS k => ?_
      exact wpAny_pure ⟨rfl, h', tk, c, rfl, hc, hS, k⟩
    · match r2, hr2 with
      | .error e, hr2 => exact hr2
      | .ok .next, hr2 => exact hr2.elim
      | .ok .brk, hr2 => exact hr2.elim
      | .ok .cont, hr2 => exact hr2.elim
      | .ok (.ret u), hr2 =>
        obtain ⟨rfl, h', tk, c, rfl, hc, hS, k⟩ := hr2
        repeat (any_goals (first | assumption | wp_step))
        exact h _ _ _ hc hS fun b o e => k b o (Nat.ne_of_lt (Heap.lt_size e)) (hold b o e)
end
end Own

set_option Elab.async false
set_option maxRecDepth 100000
set_option maxHeartbeats 4000000
set_option linter.unusedVariables false
/-! set(xs) and sorted(s): the rules -/
namespace Own
open PySem PySem.Spec PyProof.Rows L2
open PySem.Froz (SD sObj TxOk)
abbrev txLt (a b : Str) : Prop := a.cps.toList < b.cps.toList
def txtOf : Value → Str
  | .str z _ => z
  | _ => Str.empty
def IsTx (v : Value) (z : Str) : Prop := ∃ t, v = .str z t
theorem cover_perm : ∀ {l ts : List Str}, l.Nodup → (∀ x ∈ l, x ∈ ts) → ts.length = l.length → ts.Perm l
  | [], ts, _, _, e => by
    obtain rfl := List.eq_nil_of_length_eq_zero e
    exact .nil
  | x :: l, ts, nd, h, e => by
    have hx := h x List.mem_cons_self
    have p := List.perm_cons_erase hx
    obtain ⟨n1, n2⟩ := List.nodup_cons.mp nd
    refine p.trans (List.Perm.cons x (cover_perm n2 (fun y hy => ?_) ?_))
    · exact (List.mem_erase_of_ne fun (z : y = x) => n1 (z ▸ hy)).mpr (h y (List.mem_cons_of_mem _ hy))
    · rw [List.length_erase_of_mem hx, e]
      rfl
theorem each_txt {h : Heap} : ∀ {vs : List Value}, (∀ v ∈ vs, ∃ z, IsTx v z) → PySem.W.EachIs IsTx vs (vs.map txtOf) ∧ PySem.W.EachIs (fun v b => ∃ as, Reads h v (PyData.str b) as) vs (vs.map txtOf)
  | [], _ => ⟨.nil, .nil⟩
  | v :: vs, k => by
    obtain ⟨a, b⟩ := each_txt (h := h) fun u hu => k u (List.mem_cons_of_mem _ hu)
    obtain ⟨z, t, rfl⟩ := k v List.mem_cons_self
    exact ⟨.cons ⟨t, rfl⟩ a, .cons ⟨_, .str z t⟩ b⟩
theorem each_vals : ∀ {vs : List Value} {ys : List Str}, PySem.W.EachIs IsTx vs ys → Vals (ys.map V.str) vs
  | _, _, .nil => .nil
  | _, _, .cons a b => .cons a (each_vals b)
theorem ts_total : ∀ {β : Type} (k : β → PyData), PySem.W.TotalLe (PySem.W.dataLe false k) := fun k => by
  rw [PySem.W.dataLe_eq]
  have tr := fun x y z => lex_negTrans (O := itemOrd) (PySem.W.keyToks (k x)) (PySem.W.keyToks (k y)) (PySem.W.keyToks (k z))
  refine ⟨fun a b c h1 h2 => ?_, fun a b => ?_⟩
  · have a1 : PySem.W.dataLt (k b) (k a) = false := by simpa using h1
    have a2 : PySem.W.dataLt (k c) (k b) = false := by simpa using h2
    show (!PySem.W.dataLt (k c) (k a)) = true
    cases h : PySem.W.dataLt (k c) (k a) with
    | false => rfl
    | true =>
      rcases tr c b a h with z | z
      · rw [show PySem.W.dataLt (k c) (k b) = true from z] at a2
        cases a2
      · rw [show PySem.W.dataLt (k b) (k a) = true from z] at a1
        cases a1
  · show (!PySem.W.dataLt (k b) (k a)) = true ∨ (!PySem.W.dataLt (k a) (k b)) = true
    cases h : PySem.W.dataLt (k b) (k a) with
    | false => exact .inl rfl
    | true =>
      refine .inr ?_
      cases h2 : PySem.W.dataLt (k a) (k b) with
      | false => rfl
      | true =>
        have z : PySem.W.dataLt (k a) (k a) = true := lex_trans (O := itemOrd) _ _ _ h2 h
        rw [show PySem.W.dataLt (k a) (k a) = false from lex_irrefl _] at z
        cases z
theorem str_total {a b : Str} (h : a ≠ b) (h2 : ¬ txLt a b) : txLt b a := by
  rcases Decidable.em (txLt b a) with q | q
  · exact q
  · have e := List.le_antisymm (List.not_lt.mp q) (List.not_lt.mp h2)
    refine absurd ?_ h
    obtain ⟨a⟩ := a
    obtain ⟨b⟩ := b
    exact congrArg Str.mk (Array.toList_inj.mp e)
theorem asc_of {zs : List Str} (nd : zs.Nodup) : (zs.mergeSort (PySem.W.dataLe false PyData.str)).Pairwise txLt := by
  have pm := List.mergeSort_perm zs (PySem.W.dataLe false PyData.str)
  have t := ts_total PyData.str
  have pw := List.pairwise_mergeSort (le := PySem.W.dataLe false PyData.str) (fun a b c => t.1 a b c) (fun a b => by simpa using t.2 a b) zs
  have nd2 := pm.nodup_iff.mpr nd
  refine (pw.and nd2).imp ?_
  rintro a b ⟨h1, h2⟩
  have z : PySem.W.dataLt (.str b) (.str a) = false := by simpa [PySem.W.dataLe_eq] using h1
  rw [PySem.W.dataLt_str] at z
  exact str_total (fun e => h2 e.symm) (of_decide_eq_false z)
section
variable {P : Program} {w : World} {A : Around} {E : Value → Shared → Prop} {s : Shared}
open PySem.W PySem.Calls in
theorem sorted_tx {p : Addr} {l : List Str} {Q : Value → Shared → Prop} (T : TxSet P w s.heap p l) (hl : l.length ≤ 4000) (hh : A.handled = none) (hu : A.units + 64 < cLine)
    (h : ∀ (s1 : Shared) (h2 : Heap) (out : List Value) (m : Nat) (ys : List Str), (∀ b ob, s.heap.get? b = some ob → h2.get? b = some ob) → s1.gens = s.gens → s1.os = s.os → s.heap.objs.size ≤ s1.heap.objs.size →
      h2.get? s1.heap.objs.size = some (seqObj "list" out.toArray m) → EachIs IsTx out ys → ys.Pairwise txLt → ys.Perm l → Q (.ref s1.heap.objs.size) { s1 with heap := h2 }) :
    wpAny (model P w) A (call (.builtin "sorted") [.ref p]) Q E s := by
  obtain ⟨D, g, F, nd, tb⟩ := T
  obtain ⟨es, ep, t⟩ := D
  have hz : es.size = l.length := F.sz
  have sb : scanBound = 4096 := rfl
  refine call_function_entry_kw kind_sorted plain_sorted entry_sorted (args_sorted1 _) ?_
  unfold Builtin.«sorted»
  refine wpAny_bind (m := checkCount "sorted" 1 1 _) (wpAny_pure ?_)
  refine wpAny_bind (collect_set (A := A.in1) hh ⟨_, g, rfl, rfl⟩ F.fit (by show es.size < scanBound; omega) tb.ris tb.led fun s1 vs k1 z1 g1 o1 pm => ?_)
  have el : ∀ e ∈ es.toList, ∃ z, IsTx e.2 z := fun e he => by
    obtain ⟨⟨z, hz, _⟩, _⟩ := F.el e he
    revert hz
    generalize e.2 = v
    intro hz
    have hz : Value.isStrOf z v = true := hz
    cases v with
    | str y t => exact ⟨y, t, rfl⟩
    | _ => simp [Value.isStrOf] at hz
  have tx : ∀ v ∈ vs, ∃ z, IsTx v z := fun v hv => by
    obtain ⟨e, he, rfl⟩ := List.mem_map.mp (pm.mem_iff.mp hv)
    exact el e he
  have pl : (vs.map txtOf).Perm l := by
    refine (pm.map txtOf).trans (cover_perm nd (fun x hx => ?_) ?_)
    · obtain ⟨e, he, q⟩ := (F.mem x).mp hx
      refine List.mem_map.mpr ⟨e.2, List.mem_map.mpr ⟨e, he, rfl⟩, ?_⟩
      obtain ⟨z, t, hzt⟩ := el e he
      rw [hzt] at q ⊢
      exact (strKind P w).inj (.str z t) z x (PySem.Froz.is_str z t) q
    · rw [List.length_map, List.length_map, Array.length_toList]
      exact hz
  have lv : vs.length ≤ sizeLine := by
    have := pl.length_eq
    rw [List.length_map] at this
    rw [this]
    exact Nat.le_trans hl (by decide)
  obtain ⟨e, er⟩ := each_txt (h := sortingHeap (s1.heap.push (seqObj "list" vs.toArray 0)) s1.heap.objs.size vs) tx
  have al : AllAlike ((vs.map txtOf).map PyData.str) := by
    intro d hd d' hd'
    obtain ⟨x, _, rfl⟩ := List.mem_map.mp hd
    obtain ⟨y, _, rfl⟩ := List.mem_map.mp hd'
    rfl
  have so : Sortable ((vs.map txtOf).map PyData.str) := .inr fun d hd => by
    obtain ⟨x, _, rfl⟩ := List.mem_map.mp hd
    exact ⟨(fun z => by cases z), fun xs z => by cases z⟩
  have un : ∀ b, b ∈ vs.map txtOf → A.in1.in1.units + (PyData.str b).depth < cLine := fun b _ => by
    show A.units + 1 + 1 + 0 < cLine
    omega
  refine wpAny_bind (wpAny_newList ?_ (by simpa using lv))
  have at_ : (s1.heap.push (seqObj "list" vs.toArray 0)).get? s1.heap.objs.size = some (seqObj "list" vs.toArray 0) := Heap.get?_push_size _ rfl
  refine wpAny_bind (wpAny_holding (wpAny_call_entry_kw slot_list_sort ⟨_, at_, rfl⟩ entry_list_sort ?body (args_list_sort _)))
  case body =>
    have fin := list_sort_vals (prog := P) (w := w) (A := A.in1.in1) (E := E) (s := { s1 with heap := s1.heap.push (seqObj "list" vs.toArray 0) }) (κ := dataKind (sortingHeap (s1.heap.push (seqObj "list" vs.toArray 0)) s1.heap.objs.size vs) ((vs.map txtOf).map PyData.str))
      (P := fun f s' => f = .done (.ret .none) ∧ s' = { s1 with heap := sortedHeap (s1.heap.push (seqObj "list" vs.toArray 0)) s1.heap.objs.size vs (sortVals (dataKind (sortingHeap (s1.heap.push (seqObj "list" vs.toArray 0)) s1.heap.objs.size vs) ((vs.map txtOf).map PyData.str)) false vs vs).toArray })
      at_ (SortsAt.data (s := { s1 with heap := sortingHeap (s1.heap.push (seqObj "list" vs.toArray 0)) s1.heap.objs.size vs }) (each_map (R := fun v d => ∃ as, Reads (sortingHeap (s1.heap.push (seqObj "list" vs.toArray 0)) s1.heap.objs.size vs) v d as) PyData.str er) al so (bound_map un)) lv ⟨rfl, rfl⟩
    refine wpAny_mono fin (fun f s' hf => ?_) fun _ _ z => z
    obtain ⟨rfl, rfl⟩ := hf
    refine ⟨_, rfl, wpAny_pure ⟨_, rfl, ?_⟩⟩
    obtain ⟨m, hm⟩ := sortedHeap_at (out := (sortVals (dataKind (sortingHeap (s1.heap.push (seqObj "list" vs.toArray 0)) s1.heap.objs.size vs) ((vs.map txtOf).map PyData.str)) false vs vs).toArray) at_
    refine h s1 _ _ m _ (fun b ob q => ?_) g1 o1 z1 hm (sortVals_data false e er al) (asc_of (pl.nodup_iff.mpr nd)) ((List.mergeSort_perm _ _).trans pl)
    have q1 := k1 b ob q
    exact (sortedHeap_old (Nat.ne_of_lt (Heap.lt_size q1)) (by rw [size_push']; exact Nat.lt_succ_of_lt (Heap.lt_size q1))).trans (Heap.get?_push_of_some _ q1)
end
/-- the set of the texts zs at p -/
def SetD (P : Program) (w : World) (p : Addr) (zs : List Str) : HO := .ext fun h => ∃ l, Mem l zs ∧ l.length ≤ 4000 ∧ TxSet P w h p l
section
variable {X : Cx}
theorem setD_new {H : Hp} {h : Heap} {p : Addr} {zs l : List Str} (hm : Mem l zs) (hl : l.length ≤ 4000) (T : TxSet X.prog X.w h p l) : ObjOk X.prog X.w H h p (SetD X.prog X.w p zs) :=
  ⟨⟨l, hm, hl, T⟩, ⟨_, T.choose_spec.1⟩, fun h1 h2 ⟨l, hm, hl, T⟩ k => ⟨l, hm, hl, T.at k⟩⟩
/-- set(xs), texts, to be gone through -/
def rSetT (P : Program) (w : World) (K : PySem.W.Frag) : List V → Hp → VK → Prop := fun xs H Q => ∃ (a : Addr) (zs : List Str), xs = [.ref a] ∧ (SqL K H a (zs.map V.str) ∨ SqT K H a (zs.map V.str)) ∧ zs.length ≤ 4000 ∧
  ∀ p, H p = none → Q (.ref p) (upd H p (SetD P w p zs))
theorem sub_len : ∀ {l zs : List Str}, l.Nodup → (∀ x ∈ l, x ∈ zs) → l.length ≤ zs.length
  | [], _, _, _ => Nat.zero_le _
  | x :: l, zs, nd, h => by
    obtain ⟨n1, n2⟩ := List.nodup_cons.mp nd
    have hx := h x List.mem_cons_self
    have := sub_len (zs := zs.erase x) n2 fun y hy => (List.mem_erase_of_ne fun (z : y = x) => n1 (z ▸ hy)).mpr (h y (List.mem_cons_of_mem _ hy))
    rw [List.length_erase_of_mem hx] at this
    have := List.length_pos_of_mem hx
    simp only [List.length_cons]
    omega
theorem call_setT (hc : X.calm = true) : CallR X (.type "set") (rSetT X.prog X.w X.K) := by
  intro pins s σ H xs us Q I r h
  obtain ⟨a, zs, rfl, hs, hz, q⟩ := h
  obtain ⟨u, rfl, ru⟩ := r.one
  obtain rfl : u = Value.ref a := ru
  have fin : ∀ h' tk l', Mem l' zs → TxSet X.prog X.w h' s.heap.objs.size l' → (∀ b o, s.heap.get? b = some o → h'.get? b = some o) → EP X pins σ Q (.ref s.heap.objs.size) { s with heap := h', toks := tk } := fun h' tk l' hm hT keep => by
    have nd := hT.choose_spec.2.2.1
    have ll : l'.length ≤ 4000 := Nat.le_trans (sub_len nd fun x hx => (hm x).mp hx) hz
    exact ⟨.ref _, _, I.laid (t' := tk) keep (Nat.le_refl _) (setD_new hm ll hT), rfl, q _ (I.hok.fresh (Nat.le_refl _))⟩
  rcases hs with hs | hs
  · obtain ⟨its, rv, ⟨⟨oc, od, odt, osl⟩, n2, ho, hcl, hd, hdt⟩, _⟩ := I.list hs
    simp only at hcl hd hdt
    subst hcl hdt
    exact call_set_tx (.inl rfl) (I.ok.hd hc) ho (fun i v hv => txt_vals rv i v hv) (by rw [List.size_toArray, ← rv.length, List.length_map]) hz fin
  · obtain ⟨its, rv, ⟨⟨oc, od, odt, osl⟩, ho, hcl, n2, hdt⟩, _⟩ := I.tuple hs
    simp only at hcl hdt
    subst hcl hdt
    exact call_set_tx (.inr rfl) (I.ok.hd hc) ho (fun i v hv => txt_vals rv i v hv) (by rw [List.size_toArray, ← rv.length, List.length_map]) hz fin
/-- sorted(s), s such a set -/
def rSortedT (P : Program) (w : World) : List V → Hp → VK → Prop := fun xs H Q => ∃ (p : Addr) (zs : List Str), xs = [.ref p] ∧ H p = some (SetD P w p zs) ∧
  ∀ q ys, H q = none → ys.Pairwise txLt → Mem ys zs → Q (.ref q) (upd H q (.lst (ys.map V.str)))
theorem call_sortedT (hc : X.calm = true) (hu : X.A.units + 64 < cLine) : CallR X (.builtin "sorted") (rSortedT X.prog X.w) := by
  intro pins s σ H xs us Q I r h
  obtain ⟨p, zs, rfl, hp, q⟩ := h
  obtain ⟨u, rfl, ru⟩ := r.one
  obtain rfl : u = Value.ref p := ru
  obtain ⟨⟨l, hm, hl, T⟩, _⟩ := I.hok p _ hp
  refine sorted_tx T hl (I.ok.hd hc) hu fun s1 h2 out m ys k g1 o1 z1 at_ e asc pm => ?_
  have lo : (ys.map V.str).length ≤ sizeLine := by
    rw [List.length_map, pm.length_eq]
    exact Nat.le_trans hl (by decide)
  have free : H s1.heap.objs.size = none := I.hok.fresh z1
  refine ⟨.ref _, _, I.call' (s' := { s1 with heap := h2 }) (ch := []) o1 (Un.laid (o := .lst (ys.map V.str)) k z1 free) (I.hok.laid k z1 ⟨lo, out, m, each_vals e, at_⟩) (by show AllBare s1.gens; rw [g1]; exact I.bare) (fun _ z => by cases z), rfl, q _ ys free asc fun y => ?_⟩
  rw [pm.mem_iff, hm y]
end
end Own

set_option Elab.async false
set_option maxRecDepth 100000
set_option maxHeartbeats 4000000
set_option linter.unusedVariables false
/-! x[::-1], x a tuple or a text -/
namespace Own
open PySem PySem.Spec PyProof.Rows L2
section
variable {prog : Program} {w : World} {A : Around} {E : Value → Shared → Prop} {s : Shared}
theorem rev_adjust (n : Nat) : Builtin.Slice.sliceAdjust none none (-1) (n : Int) = ((n : Int) - 1, -1) := rfl
theorem rev_places (n : Nat) : Builtin.Slice.slicePlaces ((n : Int) - 1) (-1) (-1) = n := by
  unfold Builtin.Slice.slicePlaces
  rw [if_neg (by decide)]
  split
  · have e : ((n : Int) - 1 - -1 - 1) / (- -1) + 1 = n := by
      rw [show (- -1 : Int) = 1 from rfl, Int.ediv_one]
      omega
    rw [e]
    rfl
  · omega
theorem rev_pick {α : Type} (xs : List α) : ((List.range xs.length).filterMap fun (k : Nat) => xs[((xs.length : Int) - 1 + (k : Int) * (-1)).toNat]?) = xs.reverse := by
  apply List.ext_getElem?
  intro i
  have e : ∀ m, m ≤ xs.length → ((List.range m).filterMap fun (k : Nat) => xs[((xs.length : Int) - 1 + (k : Int) * (-1)).toNat]?) = xs.reverse.take m := by
    intro m
    induction m with
    | zero => intro _; simp
    | succ m ih =>
      intro hm
      have hx : xs.reverse[m]? = some xs[xs.length - 1 - m] := by
        rw [List.getElem?_reverse (by omega)]
        exact List.getElem?_eq_getElem (by omega)
      have hy : xs[((xs.length : Int) - 1 + (m : Int) * (-1)).toNat]? = some xs[xs.length - 1 - m] := by
        rw [show ((xs.length : Int) - 1 + (m : Int) * (-1)).toNat = xs.length - 1 - m by omega]
        exact List.getElem?_eq_getElem (by omega)
      rw [List.range_succ, List.filterMap_append, ih (by omega), List.take_add_one, hx]
      simp only [List.filterMap_cons, List.filterMap_nil, hy]
      rfl
  rw [e _ (Nat.le_refl _), List.take_of_length_le (by rw [List.length_reverse]; exact Nat.le_refl _)]
theorem tup_rev {t sl : Addr} {its : List Value} {vs : Value} {Q : Value → Shared → Prop} (ht : IsTup s.heap t its.toArray) (hs : s.heap.IsSliceOf sl .none .none vs) (ps : IsPart vs (some (-1))) (hz : its.length ≤ sizeLine)
    (h : Q (.ref s.heap.objs.size) { s with heap := s.heap.push { cls := .type "tuple", data := .seq its.reverse.toArray } }) : wpAny (model prog w) A (getItem (.ref t) (.ref sl)) Q E s := by
  obtain ⟨os, g1, g2, g3⟩ := id hs
  have ty : s.TypeIs (.ref sl) "slice" := ⟨os, g1, g2⟩
  have fit : sizeOk (.seq its.reverse.toArray) := by
    show its.reverse.toArray.size ≤ sizeLine
    rw [List.size_toArray, List.length_reverse]
    exact hz
  unfold getItem
  try with_reducible refine wpAny_holding ?_
  refine wpAny_bind (wpAny_sequenceKey ht.typeIs (by decide) (wpAny_bind (wpAny_callSpecial?_slot (name := Str.ofString "__getitem__") ht.typeIs PyProof.Rows.slot_tuple_getitem (wpAny_call_entry PyProof.Rows.slot_tuple_getitem ht.typeIs entry_tuple_getitem ?_ (args_tuple_getitem _ _)))))
  show wpAny _ _ (Builtin.Tuple.tupleItemsOf (.ref t) >>= _) _ _ s
  refine wpAny_bind (tupleItemsOf_ ht (wpAny_bind (wpAny_typeOf ty ?_)))
  rw [if_pos (by decide)]
  refine wpAny_bind ?_
  have app : ∀ {R : Int × Int × Nat → Shared → Prop}, R ((its.length : Int) - 1, -1, its.length) s → wpAny (model prog w) A.in1 (Builtin.Slice.sliceApplied (.ref sl) (pure ((its.toArray.size : Nat) : Int))) R E s := fun {R} r => by
    unfold Builtin.Slice.sliceApplied Builtin.Slice.sliceFields
    refine wpAny_bind (wpAny_bind (wpAny_field g1 g3 (x := .none) rfl (wpAny_bind (wpAny_field g1 g3 (x := .none) rfl (wpAny_bind (wpAny_field g1 g3 (x := vs) rfl (wpAny_pure ?_)))))))
    refine wpAny_bind (HT.slicePart_ ps ?_)
    show wpAny _ _ (if ((-1 : Int) == 0) = true then _ else _) _ _ s
    rw [if_neg (by decide)]
    refine wpAny_bind (HT.slicePart_ .none (wpAny_bind (HT.slicePart_ .none (wpAny_bind (wpAny_pure ?_)))))
    show wpAny _ _ (match Builtin.Slice.sliceAdjust none none (-1) ((its.toArray.size : Nat) : Int) with | (lo, hi) => pure (lo, (-1 : Int), Builtin.Slice.slicePlaces lo hi (-1))) _ _ s
    rw [rev_adjust]
    show wpAny _ _ (pure (((its.toArray.size : Nat) : Int) - 1, (-1 : Int), Builtin.Slice.slicePlaces (((its.toArray.size : Nat) : Int) - 1) (-1) (-1))) _ _ s
    rw [rev_places, List.size_toArray]
    exact wpAny_pure r
  refine app ?_
  show wpAny _ _ (if ((((its.length : Int) - 1) == 0 && (-1 : Int) == 1 && its.length == its.toArray.size) = true) then _ else _) _ _ s
  rw [if_neg (by simp)]
  have e : ((List.range its.length).filterMap fun (k : Nat) => its.toArray[((its.length : Int) - 1 + (k : Int) * (-1)).toNat]?).toArray = its.reverse.toArray := by
    rw [← rev_pick its]
    simp
  rw [e]
  first
    | exact wpAny_bind (m := Builtin.Tuple.tupleExact _) (wpAny_newObj_type (wpAny_pure ⟨_, rfl, wpAny_pure h⟩) fit)
    | exact wpAny_bind (m := Builtin.Tuple.tupleExact _) (wpAny_newObj_type (wpAny_bind (wpAny_pure (wpAny_pure ⟨_, rfl, wpAny_pure h⟩))) fit)
    | exact wpAny_bind (wpAny_bind (m := Builtin.Tuple.tupleExact _) (wpAny_newObj_type (wpAny_pure (wpAny_pure ⟨_, rfl, wpAny_pure h⟩)) fit))
    | exact wpAny_bind (wpAny_bind (m := Builtin.Tuple.tupleExact _) (wpAny_newObj_type (wpAny_pure ⟨_, rfl, wpAny_pure h⟩) fit))
end
/-- the text turned round -/
def revS (z : Str) : Str := Txt.sliceBy z none none (-1, 0)
/-- what x[::-1] is -/
def RvR (X : Cx) (r : V → Hp → VK → Prop) : Prop := ∀ (pins : List (Addr × Obj)) (s : Shared) (σ : L2.St) (H : Hp) (x : V) (v vs : Value) (sl : Addr) (Q : VK), Inv X pins σ H s → RelV x v → s.heap.IsSliceOf sl .none .none vs → IsPart vs (some (-1)) → r x H Q →
  ∃ T id, typeLookup (.type T) "__getitem__" = pure (some (.builtin id)) ∧ s.TypeIs v T ∧ wpAny (model X.prog X.w) X.A (getItem v (.ref sl)) (EP X pins σ Q) X.xe s
section
variable {X : Cx}
def rRvT (K : PySem.W.Frag) : V → Hp → VK → Prop := fun x H Q => ∃ a xs, x = .ref a ∧ SqT K H a xs ∧ ∀ p, H p = none → Q (.ref p) (upd H p (.tup xs.reverse))
theorem rv_tup : RvR X (rRvT X.K) := by
  intro pins s σ H x v vs sl Q I rx hs ps h
  obtain ⟨a, xs, rfl, hx, q⟩ := h
  obtain rfl : v = Value.ref a := rx
  obtain ⟨its, r, ht, hz⟩ := I.tuple hx
  refine ⟨"tuple", _, PyProof.Rows.slot_tuple_getitem.lookup, ht.typeIs, tup_rev ht hs ps (by rw [← r.length]; exact hz) ?_⟩
  exact ⟨.ref _, _, I.laid (t' := s.toks) (o := .tup xs.reverse) (fun b ob e => Heap.get?_push_of_some _ e) (Nat.le_refl _) ⟨by rw [List.length_reverse]; exact hz, _, r.reverse, IsTup.new _ _⟩, rfl, q _ (I.hok.fresh (Nat.le_refl _))⟩
def rRvS : V → Hp → VK → Prop := fun x H Q => ∃ z, x = .str z ∧ z.length ≤ sizeLine ∧ Q (.str (revS z)) H
theorem rv_str : RvR X rRvS := by
  intro pins s σ H x v vs sl Q I rx hs ps h
  obtain ⟨z, rfl, hz, q⟩ := h
  obtain ⟨t, rfl⟩ := rx
  obtain ⟨os, g1, g2, g3⟩ := hs
  cases ps with
  | int i u =>
    refine ⟨"str", _, F.slot_str_getitem.lookup, typeIs_str _ _ _, wpAny_getItem_str_slice (l := none) (u := none) (st := some (-1, u)) ⟨os, g1, g2, g3⟩ rfl (post_val_or_str ⟨?_, fun t' c => ?_⟩)⟩
    · exact Nat.le_trans (Txt.sliceBy_le z none none (-1, u) (by show (-1 : Int) ≠ 0; decide)) hz
    · exact ⟨.str _, H, I.tok _, ⟨_, rfl⟩, q⟩
def tRv (r : V → Hp → VK → Prop) (te : TE) : TE := fun σ H Q => te σ H fun x H1 => r x H1 Q
theorem pe_rev {e : Expr} {te : TE} {r : V → Hp → VK → Prop} {k : Nat} {p1 p2 p3 pos : Pos} (hr : RvR X r) (he : PE X e te) :
    PE X (e.Subscript (.Slice none none (some (.UnaryOp .USub (.Constant (.int 1) k p1) p2)) p3) pos) (tRv r te) := by
  constructor
  intro pins s σ H Q I h
  refine Subscript_ (thn (he.run pins s σ H _ I h) fun v s1 ⟨x, H1, I1, r1, q1⟩ => ?_)
  have one : PO X (some (.UnaryOp .USub (.Constant (.int 1) k p1) p2)) (tPart (tUn (rU fun i => .int (-i)) (tC (.int 1)))) := po_some (pe_un un_neg pe_int)
  refine wpAny_Slice (thn (po_none.run pins s1 σ H1 (fun o H2 => o = none ∧ H2 = H1) I1 ⟨rfl, rfl⟩) fun vl s2 ⟨l, H2, I2, pl, el, e2⟩ => ?_)
  subst el e2
  refine thn (po_none.run pins s2 σ H2 (fun o H3 => o = none ∧ H3 = H2) I2 ⟨rfl, rfl⟩) fun vu s3 ⟨u, H3, I3, pu, eu, e3⟩ => ?_
  subst eu e3
  refine thn (one.run pins s3 σ H3 (fun o H4 => o = some (-1) ∧ H4 = H3) I3 ⟨1, rfl, -1, rfl, rfl, rfl⟩) fun vs s4 ⟨o, H4, I4, ps, eo, e4⟩ => ?_
  subst eo e4
  cases pl
  cases pu
  have I5 := I4.kept (t' := s4.toks) fun b ob q => Heap.get?_push_of_some { cls := Value.type "slice", data := Data.fields #[.none, .none, vs] } q
  obtain ⟨T, id, hT, ht, hg⟩ := hr pins _ σ H4 x v vs s4.heap.objs.size Q I5 r1 (Heap.IsSliceOf.new s4.heap .none .none vs) ps q1
  exact tail_any (ops := [v, .ref s4.heap.objs.size]) ht hT hg (by with_unfolding_all rfl)
end
end Own

set_option Elab.async false
set_option maxRecDepth 100000
set_option maxHeartbeats 4000000
set_option linter.unusedVariables false
/-! how large data is: ASCII texts, ints that are not too far, weight, depth -/
namespace Own
open PySem PySem.Spec PyProof.Rows L2
def Asc (z : Str) : Prop := ∀ c ∈ z.cps.toList, c < 128
instance (z : Str) : Decidable (Asc z) := inferInstanceAs (Decidable (∀ c ∈ z.cps.toList, c < 128))
def far (n : Nat) : Nat := 10 ^ 40 + n * 10 ^ 31
mutual
def fine (n : Nat) : PyData → Bool
  | .none => true
  | .bool _ => true
  | .int i => decide (i.natAbs ≤ far n)
  | .str z => decide (Asc z)
  | .list xs => fineAll n xs
  | .tuple xs => fineAll n xs
  | .dict kvs => PyData.leavesShortKv 60 kvs && PyData.showableKv kvs
def fineAll (n : Nat) : List PyData → Bool
  | [] => true
  | x :: xs => fine n x && fineAll n xs
end
structure FD (n W D : Nat) (d : PyData) : Prop where
  fi : fine n d = true
  we : d.weight ≤ W
  de : d.depth ≤ D
structure FA (n W D : Nat) (ds : List PyData) : Prop where
  fi : fineAll n ds = true
  we : PyData.weightAll ds ≤ W
  de : PyData.depthAll ds ≤ D
theorem far_mono {n m : Nat} (h : n ≤ m) : far n ≤ far m := Nat.add_le_add_left (Nat.mul_le_mul_right _ h) _
mutual
theorem fine_mono {n m : Nat} (h : n ≤ m) : ∀ {d : PyData}, fine n d = true → fine m d = true
  | .none, _ => rfl
  | .bool _, _ => rfl
  | .int i, e => by
    have e : decide (i.natAbs ≤ far n) = true := e
    exact decide_eq_true (Nat.le_trans (of_decide_eq_true e) (far_mono h))
  | .str _, e => e
  | .list _, e => fineAll_mono h e
  | .tuple _, e => fineAll_mono h e
  | .dict _, e => e
theorem fineAll_mono {n m : Nat} (h : n ≤ m) : ∀ {ds : List PyData}, fineAll n ds = true → fineAll m ds = true
  | [], _ => rfl
  | _ :: _, e => by
    have e : (_ && _) = true := e
    rw [Bool.and_eq_true] at e
    show (_ && _) = true
    rw [Bool.and_eq_true]
    exact ⟨fine_mono h e.1, fineAll_mono h e.2⟩
end
theorem FD.mono {n m W W' D D' : Nat} {d : PyData} (f : FD n W D d) (h : n ≤ m) (h1 : W ≤ W') (h2 : D ≤ D') : FD m W' D' d := ⟨fine_mono h f.fi, Nat.le_trans f.we h1, Nat.le_trans f.de h2⟩
theorem FA.mono {n m W W' D D' : Nat} {d : List PyData} (f : FA n W D d) (h : n ≤ m) (h1 : W ≤ W') (h2 : D ≤ D') : FA m W' D' d := ⟨fineAll_mono h f.fi, Nat.le_trans f.we h1, Nat.le_trans f.de h2⟩
theorem FD.tup {n W D : Nat} {ds : List PyData} (f : FA n W D ds) : FD n W (D + 1) (.tuple ds) := ⟨f.fi, f.we, Nat.succ_le_succ f.de⟩
theorem FD.lst {n W D : Nat} {ds : List PyData} (f : FA n W D ds) : FD n W (D + 1) (.list ds) := ⟨f.fi, f.we, Nat.succ_le_succ f.de⟩
theorem FD.inT {n W D : Nat} {ds : List PyData} (f : FD n W (D + 1) (.tuple ds)) : FA n W D ds := ⟨f.fi, f.we, Nat.le_of_succ_le_succ f.de⟩
theorem FA.nil {n D : Nat} : FA n 0 D [] := ⟨rfl, Nat.le_refl _, Nat.zero_le _⟩
theorem FA.cons {n W W' D : Nat} {d : PyData} {ds : List PyData} (a : FD n W D d) (b : FA n W' D ds) : FA n (W + 1 + W') D (d :: ds) := by
  refine ⟨?_, ?_, Nat.max_le.mpr ⟨a.de, b.de⟩⟩
  · show (_ && _) = true
    rw [a.fi, b.fi]
    rfl
  · have := a.we
    have := b.we
    show _ + 1 + _ ≤ _
    omega
theorem FA.hd {n W D : Nat} {d : PyData} {ds : List PyData} (f : FA n W D (d :: ds)) : FD n (W - 1) D d := by
  have e : (fine n d && fineAll n ds) = true := f.fi
  rw [Bool.and_eq_true] at e
  have w : d.weight + 1 + PyData.weightAll ds ≤ W := f.we
  exact ⟨e.1, by omega, (Nat.max_le.mp f.de).1⟩
theorem FA.tl {n W D : Nat} {d : PyData} {ds : List PyData} (f : FA n W D (d :: ds)) : FA n W D ds := by
  have e : (fine n d && fineAll n ds) = true := f.fi
  rw [Bool.and_eq_true] at e
  have w : d.weight + 1 + PyData.weightAll ds ≤ W := f.we
  exact ⟨e.2, by omega, (Nat.max_le.mp f.de).2⟩
theorem weight_app : ∀ ds es : List PyData, PyData.weightAll (ds ++ es) = PyData.weightAll ds + PyData.weightAll es
  | [], es => (Nat.zero_add _).symm
  | d :: ds, es => by
    show _ + 1 + PyData.weightAll (ds ++ es) = _ + 1 + PyData.weightAll ds + _
    rw [weight_app]
    omega
theorem fineAll_app {n : Nat} : ∀ {ds es : List PyData}, fineAll n ds = true → fineAll n es = true → fineAll n (ds ++ es) = true
  | [], _, _, b => b
  | _ :: _, _, a, b => by
    have a : (_ && _) = true := a
    rw [Bool.and_eq_true] at a
    show (_ && _) = true
    rw [Bool.and_eq_true]
    exact ⟨a.1, fineAll_app a.2 b⟩
theorem depth_app {D : Nat} : ∀ {ds es : List PyData}, PyData.depthAll ds ≤ D → PyData.depthAll es ≤ D → PyData.depthAll (ds ++ es) ≤ D
  | [], _, _, b => b
  | _ :: _, _, a, b => Nat.max_le.mpr ⟨(Nat.max_le.mp a).1, depth_app (Nat.max_le.mp a).2 b⟩
theorem FA.app {n W W' D : Nat} {ds es : List PyData} (a : FA n W D ds) (b : FA n W' D es) : FA n (W + W') D (ds ++ es) :=
  ⟨fineAll_app a.fi b.fi, by rw [weight_app]; exact Nat.add_le_add a.we b.we, depth_app a.de b.de⟩
theorem FA.parts {n W D : Nat} : ∀ {ds es : List PyData}, FA n W D (ds ++ es) → FA n W D ds ∧ FA n W D es
  | [], es, f => ⟨FA.nil.mono (Nat.le_refl _) (Nat.zero_le _) (Nat.le_refl _), f⟩
  | d :: ds, es, f => by
    have f : FA n W D (d :: (ds ++ es)) := f
    obtain ⟨a, b⟩ := f.tl.parts
    refine ⟨⟨?_, ?_, ?_⟩, b⟩
    · show (_ && _) = true
      rw [f.hd.fi, a.fi]
      rfl
    · have w : PyData.weightAll (d :: (ds ++ es)) ≤ W := f.we
      have e : PyData.weightAll (d :: (ds ++ es)) = d.weight + 1 + PyData.weightAll (ds ++ es) := rfl
      rw [e, weight_app] at w
      show d.weight + 1 + PyData.weightAll ds ≤ W
      omega
    · exact Nat.max_le.mpr ⟨f.hd.de, a.de⟩
theorem FA.take {n W D : Nat} {ds : List PyData} (f : FA n W D ds) (i : Nat) : FA n W D (ds.take i) := by
  have h : FA n W D (ds.take i ++ ds.drop i) := by rw [List.take_append_drop]; exact f
  exact h.parts.1
theorem FA.drop {n W D : Nat} {ds : List PyData} (f : FA n W D ds) (i : Nat) : FA n W D (ds.drop i) := by
  have h : FA n W D (ds.take i ++ ds.drop i) := by rw [List.take_append_drop]; exact f
  exact h.parts.2
theorem FA.rev {n W D : Nat} : ∀ {ds : List PyData}, FA n W D ds → FA n W D ds.reverse
  | [], f => f
  | d :: ds, f => by
    have e : PyData.weightAll (d :: ds) = d.weight + 1 + PyData.weightAll ds := rfl
    have w := f.we
    rw [List.reverse_cons]
    have one : FA n (d.weight + 1) D [d] := (FA.cons (W := d.weight) ⟨f.hd.fi, Nat.le_refl _, f.hd.de⟩ FA.nil).mono (Nat.le_refl _) (by omega) (Nat.le_refl _)
    have r : FA n (PyData.weightAll ds) D ds := ⟨f.tl.fi, Nat.le_refl _, f.tl.de⟩
    exact (r.rev.app one).mono (Nat.le_refl _) (by omega) (Nat.le_refl _)
/-- a list cut at one of its items -/
theorem FA.at {n W D i : Nat} {ds : List PyData} {d : PyData} (f : FA n W D ds) (h : ds[i]? = some d) : FD n d.weight D d ∧ d.weight + 1 ≤ W ∧ FA n (W - d.weight - 1) D (ds.take i ++ ds.drop (i + 1)) := by
  have hi : i < ds.length := (List.getElem?_eq_some_iff.mp h).1
  have hd : ds.drop i = d :: ds.drop (i + 1) := by
    rw [List.drop_eq_getElem_cons hi, (List.getElem?_eq_some_iff.mp h).2]
  have h1 : FA n W D (d :: ds.drop (i + 1)) := by rw [← hd]; exact f.drop i
  have w : PyData.weightAll (ds.take i ++ ds.drop i) ≤ W := by rw [List.take_append_drop]; exact f.we
  rw [hd, weight_app] at w
  have e : PyData.weightAll (d :: ds.drop (i + 1)) = d.weight + 1 + PyData.weightAll (ds.drop (i + 1)) := rfl
  rw [e] at w
  refine ⟨⟨h1.hd.fi, Nat.le_refl _, h1.hd.de⟩, by omega, ⟨fineAll_app (f.take i).fi (f.drop (i + 1)).fi, ?_, depth_app (f.take i).de (f.drop (i + 1)).de⟩⟩
  rw [weight_app]
  omega
theorem FD.get {n W D i : Nat} {ds : List PyData} {d : PyData} (f : FA n W D ds) (h : ds[i]? = some d) : FD n W D d := by
  obtain ⟨a, b, _⟩ := f.at h
  exact a.mono (Nat.le_refl _) (by omega) (Nat.le_refl _)
/-! what repr wants -/
theorem far_lt {n : Nat} (h : n ≤ 1000) : far n < 10 ^ 50 := by
  have : n * 10 ^ 31 ≤ 1000 * 10 ^ 31 := Nat.mul_le_mul_right _ h
  have e : far n = 10 ^ 40 + n * 10 ^ 31 := rfl
  have k : 10 ^ 40 + 1000 * 10 ^ 31 < 10 ^ 50 := by decide +kernel
  omega
theorem int_short {n : Nat} (h : n ≤ 1000) {i : Int} (f : i.natAbs ≤ far n) : (toString i : String).length ≤ 51 := PySem.int_text_length_le10 (k := 50) (by decide) (Nat.lt_of_le_of_lt f (far_lt h))
theorem int_show {n : Nat} (h : n ≤ 1000) {i : Int} (f : i.natAbs ≤ far n) : i.natAbs.log2 < 180 := by
  have l := Nat.lt_of_le_of_lt f (far_lt h)
  by_cases z : i.natAbs = 0
  · rw [z]
    decide
  · rw [Nat.log2_lt z]
    exact Nat.lt_trans l (by decide +kernel)
mutual
theorem fine_leaves {n : Nat} (h : n ≤ 1000) : ∀ {d : PyData}, fine n d = true → d.leavesShort 60 = true ∧ d.showable = true
  | .none, _ => ⟨rfl, rfl⟩
  | .bool _, _ => ⟨rfl, rfl⟩
  | .int i, e => by
    have e : decide (i.natAbs ≤ far n) = true := e
    have e := of_decide_eq_true e
    refine ⟨decide_eq_true ?_, decide_eq_true (Nat.lt_trans (int_show h e) (by decide))⟩
    show (Str.ofString (toString i)).length ≤ 60
    rw [PySem.ofString_length]
    exact Nat.le_trans (int_short h e) (by decide)
  | .str z, e => by
    have e : decide (Asc z) = true := e
    refine ⟨List.all_eq_true.mpr fun c hc => decide_eq_true ?_, rfl⟩
    exact Nat.lt_trans (of_decide_eq_true e c hc) (by decide)
  | .list _, e => fineAll_leaves h e
  | .tuple _, e => fineAll_leaves h e
  | .dict _, e => by
    have e : (_ && _) = true := e
    rw [Bool.and_eq_true] at e
    exact e
theorem fineAll_leaves {n : Nat} (h : n ≤ 1000) : ∀ {ds : List PyData}, fineAll n ds = true → PyData.leavesShortAll 60 ds = true ∧ PyData.showableAll ds = true
  | [], _ => ⟨rfl, rfl⟩
  | _ :: _, e => by
    have e : (_ && _) = true := e
    rw [Bool.and_eq_true] at e
    obtain ⟨a, b⟩ := fine_leaves h e.1
    obtain ⟨c, d⟩ := fineAll_leaves h e.2
    refine ⟨?_, ?_⟩
    · show (_ && _) = true
      rw [a, c]
      rfl
    · show (_ && _) = true
      rw [b, d]
      rfl
end
theorem FD.rep {n W D : Nat} {d : PyData} (f : FD n W D d) (h : n ≤ 1000) (h1 : W ≤ 200000) (h2 : D ≤ 60) : RepD d := by
  obtain ⟨a, b⟩ := fine_leaves h f.fi
  refine ⟨b, Nat.le_trans f.de h2, ?_⟩
  have := PyData.shown_le 60 (by decide) d a
  have := f.we
  rw [sizeLine_eq]
  omega
/-! texts that stay ASCII -/
theorem asc_ofNat (l : List Nat) (h : l.all (fun c => decide (c < 128)) = true) : ∀ c ∈ l, c < 128 := fun c hc => of_decide_eq_true (List.all_eq_true.mp h c hc)
theorem asc_app {a b : Str} (h : Asc a) (k : Asc b) : Asc (a ++ b) := fun c hc => by
  have e : (a ++ b).cps.toList = a.cps.toList ++ b.cps.toList := by
    show (a.cps ++ b.cps).toList = _
    simp
  rw [e] at hc
  exact (List.mem_append.mp hc).elim (h c) (k c)
theorem asc_cut {z : Str} (h : Asc z) (lo hi : Option Int) : Asc (cutS z lo hi) := fun c hc => by
  have hc : c ∈ ((z.cps.toList.drop (HT.sIx z.length 0 lo)).take (HT.sIx z.length z.length hi - HT.sIx z.length 0 lo)).toArray.toList := hc
  exact h c (List.mem_of_mem_drop (List.mem_of_mem_take hc))
theorem asc_upper {z : Str} (h : Asc z) : Asc (Txt.upper z) ∧ (Txt.upper z).length = z.length := by
  rw [PyProof.Rows.upper_ascii h]
  refine ⟨fun c hc => ?_, by show (z.cps.map up1).size = z.cps.size; exact Array.size_map ..⟩
  have hc : c ∈ (z.cps.map up1).toList := hc
  rw [Array.toList_map] at hc
  obtain ⟨x, hx, rfl⟩ := List.mem_map.mp hc
  have := h x hx
  unfold up1
  split <;> omega
theorem fold_mem : ∀ (k : Nat) (cs acc : Array Nat) (c : Nat), c ∈ ((List.replicate k cs).foldl (· ++ ·) acc).toList → c ∈ acc.toList ∨ c ∈ cs.toList
  | 0, cs, acc, c, h => .inl h
  | k + 1, cs, acc, c, h => by
    rw [List.replicate_succ, List.foldl_cons] at h
    rcases fold_mem k cs (acc ++ cs) c h with h | h
    · rw [Array.toList_append] at h
      exact List.mem_append.mp h
    · exact .inr h
theorem asc_mul {z : Str} (h : Asc z) (k : Int) : Asc (Txt.mul z k) := by
  unfold Txt.mul
  split
  · intro c hc
    cases hc
  · split
    · exact h
    · intro c hc
      rcases fold_mem _ _ _ c hc with hc | hc
      · simp at hc
      · exact h c hc
theorem asc_rev {z : Str} (h : Asc z) : Asc (revS z) ∧ (revS z).length = z.length := by
  refine ⟨fun c hc => ?_, step_rev_len z 0⟩
  have e : (revS z).cps.toList = _ := step_rev_list z 0
  rw [e] at hc
  obtain ⟨k, hk, rfl⟩ := List.mem_map.mp hc
  have hk : k < z.length := List.mem_range.mp hk
  have l : z.length = z.cps.size := rfl
  refine h _ ?_
  rw [Array.getD, dif_pos (show z.length - 1 - k < z.cps.size by omega)]
  exact Array.mem_toList_iff.mpr (Array.getElem_mem _)
theorem asc_int (i : Int) : Asc (Str.ofString (toString i)) := fun c hc => by
  rw [signs_ofString] at hc
  obtain ⟨x, hx, rfl⟩ := List.mem_map.mp hc
  exact int_ascii i x hx
theorem asc_ok {z : Str} (h : Asc z) : PyData.strOk z = true := by
  unfold PyData.strOk
  rw [← Array.all_toList]
  exact List.all_eq_true.mpr fun c hc => decide_eq_true (Nat.lt_trans (h c hc) (by decide))
theorem FD.text {n W D : Nat} {z : Str} (h : Asc z) (l : z.length ≤ W) : FD n W D (.str z) := ⟨decide_eq_true h, l, Nat.zero_le _⟩
theorem FD.num {n W D : Nat} {i : Int} (h : i.natAbs ≤ far n) (hn : n ≤ 1000) (l : 200 ≤ W) : FD n W D (.int i) := by
  refine ⟨decide_eq_true h, ?_, Nat.zero_le _⟩
  have := int_show hn h
  show (if i == 0 then 0 else i.natAbs.log2 + 1) ≤ W
  split <;> omega
end Own
namespace Own
open PySem PySem.Spec PyProof.Rows L2
theorem op_inQK {X : Cx} {K : PySem.W.Frag} (h : X.K = K) (hu : X.A.units + 64 < cLine) : OpR X (compareOp .In) (rInQ K) := by
  subst h
  exact op_inQ hu
theorem call_reprQ' {X : Cx} {K : PySem.W.Frag} (h : X.K = K) (qt : Quiet X.A) (hu : X.A.units + 64 < cLine) (h1 : One K) : CallR X (.builtin "repr") rReprQ := by
  subst h
  exact call_reprQ qt hu h1
end Own

set_option Elab.async false
set_option maxRecDepth 100000
set_option maxHeartbeats 4000000
set_option linter.unusedVariables false
namespace K01
open PySem PySem.Spec PyProof.Rows L2 Own
def top (i : Nat) : Stmt := PySem.Challenge.pw_ownwake_k01_schemas_of_any_values.main.body.getD i (.Pass ⟨0, 0, 0, 0⟩)
-- steps
local macro_rules | `(tactic| walk_at "lk") => `(tactic| first
  | assumption | exact upd_same
  | ((with_reducible refine' lk_new ?e (by assumption)); (case e => walk_at "lk"))
  | ((with_reducible refine' lk_ext (by assumption) ?e); (case e => walk_at "lk"))
  | ((with_reducible refine' lk_same (by assumption) ?e); (case e => walk_at "lk")))
local macro_rules | `(tactic| walk_at "sq") => `(tactic| first | assumption | exact SqL.of (by walk_at "lk") | exact SqT.of (by walk_at "lk"))
local macro_rules | `(tactic| walk_at "r1") => `(tactic| first
  | with_reducible refine k_seq ?_ | with_reducible refine k_asg ?_ | with_reducible refine k_ret ?_ | with_reducible refine k_drop ?_ | with_reducible refine k_next ?_ | with_reducible refine k_ifS ?_
  | ((with_reducible refine' k_var ?e ?_); (case e => exact rfl)) | with_reducible refine k_c ?_ | with_reducible refine k_op ?_ | with_reducible refine k_un ?_ | with_reducible refine k_test ?_ | with_reducible refine k_B ?_
  | with_reducible refine k_and ?_ | with_reducible refine k_or ?_ | with_reducible refine k_not ?_ | with_reducible refine k_andV ?_ | with_reducible refine k_orV ?_ | with_reducible refine k_notV ?_ | with_reducible refine k_if ?_
  | with_reducible refine k_nil ?_ | with_reducible refine k_cons ?_ | with_reducible refine k_tup ?_ | with_reducible refine k_lst ?_ | with_reducible refine k_call ?_ | with_reducible refine k_cb ?_ | with_reducible refine k_ck ?_
  | with_reducible refine k_par ?_ | with_reducible refine k_par1 ?_ | with_reducible refine k_tr ?_ | with_reducible refine k_rI0 ?_ | with_reducible refine k_rU ?_
  | with_reducible refine k_gN ?_ | with_reducible refine k_gS ?_ | with_reducible refine k_gNil ?_ | with_reducible refine k_gCons ?_ | with_reducible refine k_bm0 ?_ | with_reducible refine k_bm ?_
  | with_reducible refine k_for ?_ | with_reducible refine k_iL ?_ | with_reducible refine k_iT ?_ | with_reducible refine k_iR1 ?_ | ((with_reducible refine k_iR1i ?e ?_); (case e => first | decide | exact ⟨by omega, by omega⟩))
  | with_reducible refine k_max ?_ | with_reducible refine k_isB ?_ | with_reducible refine k_sl ?_ | with_reducible refine k_noP ?_ | with_reducible refine k_part ?_ | with_reducible refine k_partI ?_ | with_reducible refine k_revL ?_
  | ((with_reducible refine' k_ixqT ?e ?f ?_); (case e => walk_at "sq"); (case f => first | exact rfl | exact atI_head))
  | ((with_reducible refine' k_ixqL ?e ?f ?_); (case e => walk_at "sq"); (case f => first | exact rfl | exact atI_head))
  | ((with_reducible refine' k_lenL ?e ?_); (case e => walk_at "sq"))
  | ((with_reducible refine' k_lenT ?e ?_); (case e => walk_at "sq"))
  | ((with_reducible refine' k_ixL ?e ?f ?_); (case e => walk_at "sq"); (case f => first | exact rfl | exact atI_head))
  | ((with_reducible refine' k_ixT ?e ?f ?_); (case e => walk_at "sq"); (case f => first | exact rfl | exact atI_head))
  | ((with_reducible refine k_eq ?e ?_); (case e => exact rfl)) | ((with_reducible refine k_ne ?e ?_); (case e => exact rfl))
  | ((with_reducible refine k_rI ?e ?_); (case e => first | assumption | omega | decide | exact ⟨by omega, by omega⟩ | exact .inl ⟨by omega, by omega⟩ | exact .inr ⟨by omega, by omega⟩)))
local macro_rules | `(tactic| walk_at "rd") => `(tactic| repeat walk_at "r1")
local macro_rules | `(tactic| walk_at "r2") => `(tactic| first
  | walk_at "r1"
  | with_reducible refine k_dget ?_
  | with_reducible refine k_dput ?_
  | with_reducible refine k_isNv ?_
  | with_reducible refine k_notNv ?_
  | with_reducible refine k_str ?_
  | with_reducible refine k_enumT ?_
  | with_reducible refine k_zipA ?_
  | with_reducible refine k_chain ?_
  | ((with_reducible refine' k_dgS ?e dkv_cells ?_); (case e => walk_at "lk"))
  | ((with_reducible refine' k_dgS ?e dkv_mixed ?_); (case e => walk_at "lk"))
  | ((with_reducible refine' k_dgS ?e dkv_turn ?_); (case e => walk_at "lk")))
local macro_rules | `(tactic| walk_at "rr") => `(tactic| repeat walk_at "r2")
-- steps end
abbrev s_deck : Stmt := top 23
theorem sc_deck : FnScope ["_law_script", "_law_cell", "_law_cells", "_law_mixed"] ["_law_script"] (defScope s_deck) :=
  ⟨rfl, rfl, rfl, by decide +kernel, rfl, by decide +kernel, by decide +kernel⟩
abbrev s_draw : Stmt := top 24
theorem sc_draw : FnScope ["_law_deck_here", "_law_many", "_law_cell", "_law_turn", "_law_number"] ["_law_deck_here", "_law_many"] (defScope s_draw) :=
  ⟨rfl, rfl, rfl, by decide +kernel, rfl, by decide +kernel, by decide +kernel⟩
abbrev s_pick : Stmt := top 25
theorem sc_pick : FnScope ["_law_deck_here", "_law_some"] ["_law_deck_here", "_law_some"] (defScope s_pick) :=
  ⟨rfl, rfl, rfl, by decide +kernel, rfl, by decide +kernel, by decide +kernel⟩
theorem dp_ints {K : PySem.W.Frag} {H : Hp} : ∀ xs : List Int, DpAll K H (xs.map V.int) (xs.map PyData.int)
  | [] => .nil
  | x :: xs => .cons (.int x) (dp_ints xs)
theorem lay_ints : ∀ xs : List Int, SeqAt.shaped (.list (xs.map PyData.int)) = true := by
  intro xs
  have h1 : ∀ ys : List Int, PyData.canLayAll0 (ys.map PyData.int) = true := by
    intro ys
    induction ys with
    | nil => rfl
    | cons y ys ih => simpa [PyData.canLayAll0, PyData.canLay0] using ih
  have h2 : ∀ ys : List Int, PyData.depthAll (ys.map PyData.int) = 0 := by
    intro ys
    induction ys with
    | nil => rfl
    | cons y ys ih => simp [PyData.depthAll, PyData.depth, ih]
  unfold SeqAt.shaped
  simp [PyData.canLay0, PyData.depth, h1, h2]
theorem eq_nil : PyData.eqv (.list []) (.list []) = true := by simp [PyData.eqv, PyData.eqvAll]

section
variable {P : Program} {w : World} {K : PySem.W.Frag} {mg : Str → Option Value} {g0 : Heap}
def spDraw : Sp := fun vs H Q _ => ∃ (d c : Addr) (b many : Int), vs = [.ref d, .int many] ∧ Deck d c b H ∧ b ≤ 1000000000 ∧ 0 < many ∧ many ≤ 1000000000000 ∧
  ∀ (r : Int) (H' : Hp), 0 ≤ r → r < many → Deck d c (b + 1) H' → Ext (Dk d c) H H' → Q (.int r) H'
theorem ok_draw {f : Addr} {fd : FuncData} (F : Fun K "_law_draw" "_law_draw" s_draw f fd) : GOk P w K mg g0 CX0 1 f fd ["_law_deck_here", "_law_many"] spDraw := by
  have nd := sc_draw.nd
  refine okG F sc_draw (fun vs H Q E h => ?_) (fun cdv A up s H vs Q E qt hr h => ?_)
  · obtain ⟨d, c, b, many, rfl, _⟩ := h
    rfl
  · obtain ⟨d, c, b, many, rfl, D, hb, h0, h1, k⟩ := h
    have hu := hu_of hr
    refine ⟨_, pss_cons (ps_dput hu (pv 0) pe_str (pe_op op_add (pe_dget hu (pv 0) pe_str (fun _ _ => rfl)) pe_int) rfl)
      (pss_cons (ps_set (i := 2) nd rfl (.inl rfl) (pe_dget hu (pv 0) pe_str (fun _ _ => rfl)))
      (Evl.pss_cut (ps_if (pt_cmpR (op_neD hr.units) (pe_dget hu (pv 0) pe_str (fun _ _ => rfl)) (pe_lst pa_nil) (nomark _))
        (pss_cons (ps_set (i := 2) nd rfl (.inl rfl) (pe_bm0 PySem.F.plainAttrs_list PySem.F.slot_list_pop PySem.F.type_list_pop mt_pop (pe_dget hu (pv 0) pe_str (fun _ _ => rfl))))
          (pss_cons (ps_if (pt_cmpR op_ge (pv 2) (pe_op op_pow pe_int pe_int) (nomark _))
            (pss_cons (ps_expr (pe_bm PySem.F.plainAttrs_list PySem.F.slot_list_append PySem.F.type_list_append mt_append (pe_dget hu (pv 0) pe_str (fun _ _ => rfl)) (pa_cons (pe_op op_fdivW (pv 2) (pv 1)) pa_nil)))
              (pss_one (ps_ret (pe_op op_mod (pv 2) (pv 1))))) pss_nil)
          (pss_one (ps_set (i := 2) nd rfl (.inl rfl) (pe_op op_add (pv 2) (pe_dget hu (pv 0) pe_str (fun _ _ => rfl))))))) pss_nil)
      (pss_cons (ps_set (i := 3) nd rfl (.inl rfl) (pe_dget hu (pv 0) pe_str (fun _ _ => rfl)))
      (pss_cons (ps_set (i := 4) nd rfl (.inl rfl) (pe_op op_mod (pe_op op_mul (pe_op op_add (pe_op op_add (pe_op op_mod (pv 2) pe_int) (pe_op op_mul (pe_op op_mul pe_int (pv 3)) (pv 3))) pe_int) pe_int) pe_int))
      (pss_cons (ps_set (i := 4) nd rfl (.inl rfl) (pe_op op_mod (pe_op op_add (pe_op op_add (pe_op op_mul (pv 4) (pv 4)) (pe_op op_mul pe_int (pv 3))) pe_int) pe_int))
      (pss_one (ps_ret (pe_op op_mod (pe_op op_fdiv (pe_op op_mod (pe_op op_mul (pv 4) pe_int) pe_int) pe_int) (pv 1))))))))), ?_⟩
    obtain ⟨xs, m, n, ne, hd, hc, m0, m1, n0, n1, hl⟩ := D
    walk_at "rr"
    refine k_dpS hd (by show 3 < 100000; decide) ?_
    rw [dkv_put]
    have x1 : Ext (Dk d c) H (upd H d (.dK (dkv c m (n + 1)))) := Ext.upd hd (.inl rfl) (fun _ z => by cases z)
    have hd1 : upd H d (.dK (dkv c m (n + 1))) d = some (.dK (dkv c m (n + 1))) := upd_same
    have hc1 : upd H d (.dK (dkv c m (n + 1))) c = some (.lst (xs.map V.int)) := (upd_ne ne.symm).trans hc
    generalize upd H d (.dK (dkv c m (n + 1))) = H1 at x1 hd1 hc1 ⊢
    walk_at "rr"
    let Mid : L2.St → Hp → Prop := fun σ' H' => ∃ (cell : Int) (ys : List Int), σ' = [some (.ref d), some (.int many), some (.int cell), none, none] ∧ Ext (Dk d c) H H' ∧
      H' d = some (.dK (dkv c m (n + 1))) ∧ H' c = some (.lst (ys.map V.int)) ∧ ys.length ≤ 63
    refine ⟨Mid, ?_, ?_⟩
    · walk_at "rr"
      refine ⟨k_sz rfl, fun p hp => ?_⟩
      have x2 : Ext (Dk d c) H (upd H1 p (.lst [])) := x1.trans (ext_new hp)
      have hd2 := lk_new (o := .lst []) hd1 hp
      have hc2 := lk_new (o := .lst []) hc1 hp
      have hp2 : upd H1 p (.lst []) p = some (.lst []) := upd_same
      generalize upd H1 p (.lst []) = H2 at x2 hd2 hc2 hp2 ⊢
      refine ⟨.list (xs.map .int), .list [], .lst (SqL.of hc2) (dp_ints xs), .lst (SqL.of hp2) .nil, lay_ints xs, lay_ints [], ?_⟩
      rcases List.eq_nil_or_concat xs with rfl | ⟨zs, z, rfl⟩
      · refine ⟨_, rfl, ?_⟩
        rw [show PyData.eqv (.list (List.map PyData.int [])) (.list []) = true from eq_nil]
        refine iteF ?_
        exact ⟨m, [], rfl, x2, hd2, hc2, Nat.zero_le _⟩
      · have hz : (zs.concat z).map V.int = zs.map V.int ++ [V.int z] := by simp
        have hz2 : zs.length ≤ 62 := by simp at hl; omega
        refine ⟨_, rfl, ?_⟩
        rw [show PyData.eqv (.list (List.map PyData.int (zs.concat z))) (.list []) = false by
          cases zs <;> simp [PyData.eqv, PyData.eqvAll]]
        refine iteT ?_
        walk_at "rr"
        refine ⟨k_tyL hc2, ?_⟩
        rw [hz] at hc2
        refine k_pop (v := .int z) hc2 (by simp) ?_
        rw [List.dropLast_concat]
        have x3 : Ext (Dk d c) H (upd H2 c (.lst (zs.map V.int))) := x2.trans (Ext.upd hc2 (.inr rfl) (fun _ z => by cases z))
        have hd3 : upd H2 c (.lst (zs.map V.int)) d = some (.dK (dkv c m (n + 1))) := (upd_ne ne).trans hd2
        have hc3 : upd H2 c (.lst (zs.map V.int)) c = some (.lst (zs.map V.int)) := upd_same
        generalize upd H2 c (.lst (zs.map V.int)) = H3 at x3 hd3 hc3 ⊢
        walk_at "rr"
        refine k_ite (fun _ => ?_) (fun _ => ?_)
        · walk_at "rr"
          refine ⟨k_tyL hc3, ?_⟩
          walk_at "rr"
          refine k_rI (wide_div (b := 40) h0 (by omega) (by decide) (by decide)) ?_
          walk_at "rr"
          refine k_app hc3 (by simp; exact Nat.lt_of_le_of_lt hz2 (by decide)) ?_
          walk_at "rr"
          refine k _ _ (Int.emod_nonneg _ (by omega)) (Int.emod_lt_of_pos _ h0) ⟨zs ++ [z / many], m, n + 1, ne, (upd_ne ne).trans hd3, ?_, m0, m1, by omega, by omega, by simp; omega⟩ ?_
          · rw [upd_same]
            simp
          · exact x3.trans (Ext.upd hc3 (.inr rfl) (fun _ z => by cases z))
        · walk_at "rr"
          exact ⟨z + m, zs, rfl, x3, hd3, hc3, by omega⟩
    · rintro σ' H' ⟨cell, ys, rfl, x2, hd2, hc2, hy⟩
      walk_at "rr"
      exact k _ _ (Int.emod_nonneg _ (by omega)) (Int.emod_lt_of_pos _ h0) ⟨ys, m, n + 1, ne, hd2, hc2, m0, m1, by omega, by omega, hy⟩ x2

theorem atI_in {xs : List V} {r : Int} (h0 : 0 ≤ r) (h1 : r < (xs.length : Int)) : ∃ x, x ∈ xs ∧ atI xs r = some x := by
  have h2 : r.toNat < xs.length := by omega
  refine ⟨xs[r.toNat], List.getElem_mem h2, ?_⟩
  have e : ((r.toNat : Nat) : Int) = r := by omega
  have q : atI xs ((r.toNat : Nat) : Int) = some xs[r.toNat] := atI_nat (List.getElem?_eq_getElem h2)
  rw [e] at q
  exact q
def spPick : Sp := fun vs H Q _ => ∃ (d c l : Addr) (b : Int) (xs : List V), vs = [.ref d, .ref l] ∧ Deck d c b H ∧ b ≤ 1000000000 ∧ ¬ Dk d c l ∧ H l = some (.lst xs) ∧ 0 < xs.length ∧ xs.length ≤ 1000 ∧
  ∀ (x : V) (H' : Hp), x ∈ xs → Deck d c (b + 1) H' → Ext (Dk d c) H H' → Q x H'
theorem ok_pick {f : Addr} {fd : FuncData} (F : Fun K "_law_pick" "_law_pick" s_pick f fd) (z_len : mg "len" = none)
    (C_draw : Cal P w K mg g0 "_law_draw" 1 ["_law_deck_here", "_law_many"] spDraw) : GOk P w K mg g0 CX0 2 f fd ["_law_deck_here", "_law_some"] spPick := by
  have nd := sc_pick.nd
  refine okG F sc_pick (fun vs H Q E h => ?_) (fun cdv A up s H vs Q E qt hr h => ?_)
  · obtain ⟨d, c, l, b, xs, rfl, _⟩ := h
    rfl
  · obtain ⟨d, c, l, b, xs, rfl, D, hb, ml, hl, l0, l1, k⟩ := h
    refine ⟨_, (pss_one (ps_ret (pe_ix ix_seq (pv 1) (pe_c C_draw qt (hr.mono (by decide)) (pa_cons (pv 0) (pa_cons (pe_callB (c_lenK (K := K) rfl) (by rfl) z_len (by decide +kernel) (pa_cons (pv 1) pa_nil)) pa_nil))) (fun _ _ => rfl)))), ?_⟩
    walk_at "rr"
    refine ⟨d, c, b, _, rfl, D, hb, by omega, by omega, fun r H' r0 r1 D' x' => ?_⟩
    obtain ⟨x, hx, he⟩ := atI_in r0 r1
    refine k_ixqL (SqL.of (x'.2 _ _ ml hl)) he ?_
    exact k x H' hx D' x'
theorem cut_ints (ns : List Int) (lo hi : Option Int) : ∃ ms : List Int, cutV (ns.map V.int) lo hi = ms.map V.int ∧ ms.length ≤ ns.length := by
  refine ⟨(ns.drop (HT.sIx ns.length 0 lo)).take (HT.sIx ns.length ns.length hi - HT.sIx ns.length 0 lo), ?_, ?_⟩
  · unfold cutV
    rw [List.length_map, List.map_take, List.map_drop]
  · rw [List.length_take, List.length_drop]
    omega
def spDeck (K : PySem.W.Frag) : Sp := fun vs H Q _ => ∃ (a : Addr) (ns : List Int), vs = [.ref a] ∧ SqL K H a (ns.map V.int) ∧ ns.length ≤ 63 ∧
  ∀ (d c : Addr) (H' : Hp), H d = none → H c = none → Deck d c 0 H' → Same H H' → Q (.ref d) H'
theorem ok_deck {f : Addr} {fd : FuncData} (F : Fun K "_law_deck" "_law_deck" s_deck f fd) (z_list : mg "list" = none) : GOk P w K mg g0 CX0 1 f fd ["_law_script"] (spDeck K) := by
  have nd := sc_deck.nd
  refine okG F sc_deck (fun vs H Q E h => ?_) (fun cdv A up s H vs Q E qt hr h => ?_)
  · obtain ⟨a, ns, rfl, _⟩ := h
    rfl
  · obtain ⟨a, ns, rfl, hS, hl, k⟩ := h
    refine ⟨_, (pss_cons (ps_par (i := 2) (j := 3) (by rfl) nd rfl rfl (by decide) rfl rfl (pa_cons (pe_callTy c_list (by rfl) z_list (by decide +kernel) (pa_cons (pe_slice sl_list (pv 0) po_none (po_some pe_int)) pa_nil)) (pa_cons pe_int pa_nil)) (by rfl))
        (pss_cons (ps_for PassesOwn.never rfl (pi_list (pv 2)) (pg_name (i := 1) nd rfl (Or.inl rfl)) (pss_one (ps_set (i := 3) nd rfl (Or.inl rfl) (pe_op op_mod (pe_op op_add (pe_op op_add (pe_op op_mul (pv 3) pe_int) (pe_op op_mod (pv 1) pe_int)) pe_int) pe_int))))
        (pss_one (ps_ret (pe_disp (pps_cons pe_str (pe_revL (pv 2)) (pps_cons pe_str (pv 3) (pps_cons pe_str pe_int pps_nil))) rfl rfl (by decide) (by decide)))))), ?_⟩
    walk_at "rr"
    refine k_slL hS (fun p hp => ?_)
    obtain ⟨ms, em, lm⟩ := cut_ints ns none (some 63)
    rw [em]
    have s1 : Same H (upd H p (.lst (ms.map V.int))) := Same.upd hp
    have hp1 : upd H p (.lst (ms.map V.int)) p = some (.lst (ms.map V.int)) := upd_same
    generalize upd H p (.lst (ms.map V.int)) = H1 at s1 hp1 ⊢
    walk_at "rr"
    refine k_listL (SqL.of hp1) (fun q hq => ?_)
    have s2 : Same H (upd H1 q (.lst (ms.map V.int))) := s1.trans (Same.upd hq)
    have hq2 : upd H1 q (.lst (ms.map V.int)) q = some (.lst (ms.map V.int)) := upd_same
    generalize upd H1 q (.lst (ms.map V.int)) = H2 at s2 hq2 ⊢
    walk_at "rr"
    let Pv : Nat → L2.St → Hp → Prop := fun i σ H' => ∃ (m : Int) (v : Option V), σ = [some (.ref a), v, some (.ref q), some (.int m)] ∧ H2 = H' ∧ 0 ≤ m ∧ m < 4294967296
    refine ⟨q, rfl, ⟨_, SqL.of hq2⟩, for_list (xs := ms.map V.int) Pv ⟨_, _, rfl, rfl, by decide, by decide⟩ (fun i σ H' _ h => ?_) (fun i x σ H' hx h => ?_) (fun σ H' h => ?_)⟩
    · obtain ⟨m, v, rfl, rfl, _⟩ := h
      exact SqL.of hq2
    · obtain ⟨m, v, rfl, rfl, m0, m1⟩ := h
      rw [List.getElem?_map] at hx
      obtain ⟨z, hz, rfl⟩ := Option.map_eq_some_iff.mp hx
      walk_at "rr"
      exact ⟨_, _, rfl, rfl, by omega, by omega⟩
    · obtain ⟨m, v, rfl, rfl, m0, m1⟩ := h
      walk_at "rr"
      refine k_disp3 fun d hd => ?_
      have s3 : Same H (upd H2 d (.dK [])) := s2.trans (Same.upd hd)
      have hq3 := lk_new (o := .dK []) hq2 hd
      have hd3 : upd H2 d (.dK []) d = some (.dK []) := upd_same
      generalize upd H2 d (.dK []) = H3 at s3 hq3 hd3 ⊢
      walk_at "rr"
      refine ⟨q, _, rfl, SqL.of hq3, fun c hc => ?_⟩
      have ndc := ne_of_none hd3 hc
      have s4 : Same H (upd H3 c (.lst (ms.map V.int).reverse)) := s3.trans (Same.upd hc)
      have hd4 := lk_new (o := .lst (ms.map V.int).reverse) hd3 hc
      have hc4 : upd H3 c (.lst (ms.map V.int).reverse) c = some (.lst (ms.map V.int).reverse) := upd_same
      have hd0 := same_free s2 hd
      have hc0 := same_free s3 hc
      generalize upd H3 c (.lst (ms.map V.int).reverse) = H4 at s4 hd4 hc4 ⊢
      walk_at "rr"
      refine ⟨hd4, dkv c m 0, rfl, by show 3 ≤ 15; decide, ?_⟩
      rw [dkv_merge]
      refine k d c _ hd0 hc0 ⟨ms.reverse, m, 0, ndc, upd_same, ?_, m0, m1, Int.le_refl _, Int.le_refl _, ?_⟩ (same_off s4 hd0)
      · rw [upd_ne ndc.symm, hc4, List.map_reverse]
      · rw [List.length_reverse]
        omega
end
end K01

set_option Elab.async false
set_option maxRecDepth 100000
set_option maxHeartbeats 4000000
set_option linter.unusedVariables false
namespace K01
open PySem PySem.Spec PyProof.Rows L2 Own
-- steps
local macro_rules | `(tactic| walk_at "lk") => `(tactic| first
  | assumption | exact upd_same
  | ((with_reducible refine' lk_new ?e (by assumption)); (case e => walk_at "lk"))
  | ((with_reducible refine' lk_ext (by assumption) ?e); (case e => walk_at "lk"))
  | ((with_reducible refine' lk_same (by assumption) ?e); (case e => walk_at "lk")))
local macro_rules | `(tactic| walk_at "sq") => `(tactic| first | assumption | exact SqL.of (by walk_at "lk") | exact SqT.of (by walk_at "lk"))
local macro_rules | `(tactic| walk_at "r1") => `(tactic| first
  | with_reducible refine k_seq ?_ | with_reducible refine k_asg ?_ | with_reducible refine k_ret ?_ | with_reducible refine k_drop ?_ | with_reducible refine k_next ?_ | with_reducible refine k_ifS ?_
  | ((with_reducible refine' k_var ?e ?_); (case e => exact rfl)) | with_reducible refine k_c ?_ | with_reducible refine k_op ?_ | with_reducible refine k_un ?_ | with_reducible refine k_test ?_ | with_reducible refine k_B ?_
  | with_reducible refine k_and ?_ | with_reducible refine k_or ?_ | with_reducible refine k_not ?_ | with_reducible refine k_andV ?_ | with_reducible refine k_orV ?_ | with_reducible refine k_notV ?_ | with_reducible refine k_if ?_
  | with_reducible refine k_nil ?_ | with_reducible refine k_cons ?_ | with_reducible refine k_tup ?_ | with_reducible refine k_lst ?_ | with_reducible refine k_call ?_ | with_reducible refine k_cb ?_ | with_reducible refine k_ck ?_
  | with_reducible refine k_par ?_ | with_reducible refine k_par1 ?_ | with_reducible refine k_tr ?_ | with_reducible refine k_rI0 ?_ | with_reducible refine k_rU ?_
  | with_reducible refine k_gN ?_ | with_reducible refine k_gS ?_ | with_reducible refine k_gNil ?_ | with_reducible refine k_gCons ?_ | with_reducible refine k_bm0 ?_ | with_reducible refine k_bm ?_
  | with_reducible refine k_for ?_ | with_reducible refine k_iL ?_ | with_reducible refine k_iT ?_ | with_reducible refine k_iR1 ?_ | ((with_reducible refine k_iR1i ?e ?_); (case e => first | decide | exact ⟨by omega, by omega⟩))
  | with_reducible refine k_max ?_ | with_reducible refine k_isB ?_ | with_reducible refine k_sl ?_ | with_reducible refine k_noP ?_ | with_reducible refine k_part ?_ | with_reducible refine k_partI ?_ | with_reducible refine k_revL ?_
  | ((with_reducible refine' k_ixqT ?e ?f ?_); (case e => walk_at "sq"); (case f => first | exact rfl | exact atI_head))
  | ((with_reducible refine' k_ixqL ?e ?f ?_); (case e => walk_at "sq"); (case f => first | exact rfl | exact atI_head))
  | ((with_reducible refine' k_lenL ?e ?_); (case e => walk_at "sq"))
  | ((with_reducible refine' k_lenT ?e ?_); (case e => walk_at "sq"))
  | ((with_reducible refine' k_ixL ?e ?f ?_); (case e => walk_at "sq"); (case f => first | exact rfl | exact atI_head))
  | ((with_reducible refine' k_ixT ?e ?f ?_); (case e => walk_at "sq"); (case f => first | exact rfl | exact atI_head))
  | ((with_reducible refine k_eq ?e ?_); (case e => exact rfl)) | ((with_reducible refine k_ne ?e ?_); (case e => exact rfl))
  | ((with_reducible refine k_rI ?e ?_); (case e => first | assumption | omega | decide | exact ⟨by omega, by omega⟩ | exact .inl ⟨by omega, by omega⟩ | exact .inr ⟨by omega, by omega⟩)))
local macro_rules | `(tactic| walk_at "rd") => `(tactic| repeat walk_at "r1")
local macro_rules | `(tactic| walk_at "r2") => `(tactic| first
  | walk_at "r1"
  | with_reducible refine k_ifTt ?_ | with_reducible refine k_ifFf ?_ | with_reducible refine k_ifNt ?_ | with_reducible refine k_ifNf ?_
  | with_reducible refine k_makeR ?_ | with_reducible refine k_tJ ?_ | with_reducible refine k_tJc ?_ | with_reducible refine k_tJn ?_ | with_reducible refine k_fmt ?_ | with_reducible refine k_lc ?_ | with_reducible refine k_din ?_ | with_reducible refine k_fld ?_ | with_reducible refine k_dget ?_
  | with_reducible refine k_dput ?_
  | with_reducible refine k_isNv ?_
  | with_reducible refine k_notNv ?_
  | with_reducible refine k_str ?_
  | with_reducible refine k_enumT ?_
  | with_reducible refine k_zipA ?_
  | with_reducible refine k_chain ?_
  | ((with_reducible refine' k_dgS ?e dkv_cells ?_); (case e => walk_at "lk"))
  | ((with_reducible refine' k_dgS ?e dkv_mixed ?_); (case e => walk_at "lk"))
  | ((with_reducible refine' k_dgS ?e dkv_turn ?_); (case e => walk_at "lk")))
local macro_rules | `(tactic| walk_at "rr") => `(tactic| repeat walk_at "r2")
-- steps end
abbrev s_is_name : Stmt := top 7
theorem sc_is_name : FnScope ["thing", "letter"] ["thing"] (defScope s_is_name) :=
  ⟨rfl, rfl, rfl, by decide +kernel, rfl, by decide +kernel, by decide +kernel⟩
abbrev s_is_tuple : Stmt := top 8
theorem sc_is_tuple : FnScope ["thing", "size"] ["thing", "size"] (defScope s_is_tuple) :=
  ⟨rfl, rfl, rfl, by decide +kernel, rfl, by decide +kernel, by decide +kernel⟩
abbrev s_is_ascending : Stmt := top 9
theorem sc_is_ascending : FnScope ["things", "one", "other"] ["things"] (defScope s_is_ascending) :=
  ⟨rfl, rfl, rfl, by decide +kernel, rfl, by decide +kernel, by decide +kernel⟩
abbrev s__are_columns : Stmt := top 16
theorem sc__are_columns : FnScope ["thing", "column"] ["thing"] (defScope s__are_columns) :=
  ⟨rfl, rfl, rfl, by decide +kernel, rfl, by decide +kernel, by decide +kernel⟩
abbrev s__are_some : Stmt := top 17
theorem sc__are_some : FnScope ["thing", "columns", "column"] ["thing", "columns"] (defScope s__are_some) :=
  ⟨rfl, rfl, rfl, by decide +kernel, rfl, by decide +kernel, by decide +kernel⟩
abbrev s_is_table : Stmt := top 15
theorem sc_is_table : FnScope ["thing", "name", "columns", "indexes", "keyed"] ["thing"] (defScope s_is_table) :=
  ⟨rfl, rfl, rfl, by decide +kernel, rfl, by decide +kernel, by decide +kernel⟩
/-! ### names -/
theorem all_true {α : Type} (xs : List α) : (xs.map fun _ => true).all id = true := List.all_eq_true.mpr fun b hb => by
  obtain ⟨_, _, rfl⟩ := List.mem_map.mp hb
  rfl
def isLet (c : Nat) : Bool := decide (97 ≤ c) && decide (c ≤ 122)
def isNameB (z : Str) : Bool := decide (1 ≤ z.length) && decide (z.length ≤ 8) && z.cps.toList.all isLet
abbrev letters : Str := "abcdefghijklmnopqrstuvwxyz"
theorem let_is {c : Nat} (h : c < 128) : (!(Builtin.Str.occurrences letters ⟨#[c]⟩ 0 letters.length 1).isEmpty) = isLet c := by
  have z : ∀ c : Nat, c < 128 → (!(Builtin.Str.occurrences letters ⟨#[c]⟩ 0 letters.length 1).isEmpty) = isLet c := by decide +kernel
  exact z c h
theorem let_in {c : Nat} (h : isLet c = true) : (!(Builtin.Str.occurrences letters ⟨#[c]⟩ 0 letters.length 1).isEmpty) = true := by
  have h2 : c ≤ 122 := by
    unfold isLet at h
    simp at h
    exact h.2
  rw [let_is (by omega)]
  exact h
abbrev sLt (a b : Str) : Prop := a.cps.toList < b.cps.toList
/-! ### any data -/
def isS : PyData → Bool
  | .str _ => true
  | _ => false
def isT : PyData → Bool
  | .tuple _ => true
  | _ => false
theorem kit_s : kitB "NoneType" "str" = some false ∧ kitB "bool" "str" = some false ∧ kitB "int" "str" = some false ∧ kitB "str" "str" = some true ∧ kitB "list" "str" = some false ∧ kitB "tuple" "str" = some false ∧ kitB "dict" "str" = some false := by decide +kernel
theorem kit_t : kitB "NoneType" "tuple" = some false ∧ kitB "bool" "tuple" = some false ∧ kitB "int" "tuple" = some false ∧ kitB "str" "tuple" = some false ∧ kitB "list" "tuple" = some false ∧ kitB "tuple" "tuple" = some true ∧ kitB "dict" "tuple" = some false := by decide +kernel
theorem isi_str {K : PySem.W.Frag} {H : Hp} {v : V} {d : PyData} {Q : VK} (h : Dq H v d) (q : Q (.bl (isS d)) H) : rIsi K [v, .ty "str"] H Q := by
  obtain ⟨k1, k2, k3, k4, k5, k6, k7⟩ := kit_s
  refine isi_t h.ty (b := isS d) ?_ q
  cases d
  · exact k1
  · exact k2
  · exact k3
  · exact k4
  · exact k5
  · exact k6
  · exact k7
theorem isi_tup {K : PySem.W.Frag} {H : Hp} {v : V} {d : PyData} {Q : VK} (h : Dq H v d) (q : Q (.bl (isT d)) H) : rIsi K [v, .ty "tuple"] H Q := by
  obtain ⟨k1, k2, k3, k4, k5, k6, k7⟩ := kit_t
  refine isi_t h.ty (b := isT d) ?_ q
  cases d
  · exact k1
  · exact k2
  · exact k3
  · exact k4
  · exact k5
  · exact k6
  · exact k7
def nmB : PyData → Bool
  | .str z => isNameB z
  | _ => false
/-- any data, not too large -/
def Ok1 (d : PyData) : Prop := FD 1000 4000 50 d
section
variable {P : Program} {w : World} {K : PySem.W.Frag} {mg : Str → Option Value} {base : Heap}
def spName : Sp := fun vs H Q _ => ∃ (v : V) (d : PyData), vs = [v] ∧ Dq H v d ∧ Ok1 d ∧ ∀ H', Same H H' → Q (.bl (nmB d)) H'
theorem ok_name {f : Addr} {fd : FuncData} (F : Fun K "is_name" "is_name" s_is_name f fd) (z_isinstance : mg "isinstance" = none) (z_str : mg "str" = none) (z_len : mg "len" = none) (z_all : mg "all" = none) {t : Tok} (c_LETTERS : mg "LETTERS" = some (.str letters t)) :
    FnOk P w K mg base CX0 1 f fd ["thing"] spName := by
  have nd := sc_is_name.nd
  refine F.ok sc_is_name (fun vs H Q E h => ?_) (fun cdv A up s H vs Q E hr h => ?_)
  · obtain ⟨v, d, rfl, _⟩ := h
    rfl
  · obtain ⟨v, d, rfl, hd, fd1, k⟩ := h
    refine ⟨_, (pss_one (ps_ret (pe_and (pe_callB call_isi (by rfl) z_isinstance (by decide +kernel) (pa_cons (pv 0) (pa_cons (pe_bltn (v := .ty "str") (by rfl) z_str PyProof.Rows.boot_str rfl) pa_nil))) (pe_and (pe_chain op_le op_le pe_int (pe_callB call_len_str (by rfl) z_len (by decide +kernel) (pa_cons (pv 0) pa_nil)) pe_int) (pe_one (pe_callB (cr_all rfl) (by rfl) z_all (by decide +kernel) (pa_cons (pe_lc (own := [("letter", 1)]) (g := (gName 1)) (tt := tYes) (te := (tOp _ (tVar 1) (tC (.str "abcdefghijklmnopqrstuvwxyz")))) (by rfl) nd (pi_str (pv 0)) (blkOk_by (own := [("letter", 1)]) (N := ["thing", "letter"]) (sc := defScope s_is_name) (by decide +kernel)) (fun _ _ _ _ _ => by exact (pg_name (i := 1) nd rfl (Or.inl rfl))) (fun _ _ _ _ _ => by exact pts_nil) (fun _ _ _ _ _ => by exact (pe_cmpR op_in_str (pv 1) (pe_glob (v := .str "abcdefghijklmnopqrstuvwxyz") rfl c_LETTERS ⟨_, rfl⟩) (by rfl)))) pa_nil))))))), ?_⟩
    walk_at "rr"
    refine isi_str hd ?_
    by_cases hs : ∃ z, d = .str z
    · obtain ⟨z, rfl⟩ := hs
      cases hd
      have as : Asc z := of_decide_eq_true fd1.fi
      have le : z.length ≤ 4000 := fd1.we
      have k2 : ∀ H', Same H H' → Q (.bl (isNameB z)) H' := k
      have bad : isNameB z = false → ∀ H', Same H H' → Q (.bl false) H' := fun e H' s' => e ▸ k2 H' s'
      refine ⟨true, rfl, k_ifTt ?_⟩
      walk_at "rr"
      refine ⟨z, rfl, by rw [sizeLine_eq]; omega, ?_⟩
      walk_at "rr"
      refine k_iteD (fun z1 => ?_) fun z1 => ?_
      · walk_at "rr"
        refine k_iteD (fun z2 => ?_) fun z2 => ?_
        · walk_at "rr"
          walk_at "rr"
          have lz : z.cps.size = z.length := rfl
          refine ⟨z, rfl, fun D hD => ?_⟩
          refine lc_same walk_str (fun i => match z.cps.toList[i]? with | some c => .bl (isLet c) | none => .non) (fun _ => true) (by show z.cps.size < _; omega) hD (fun _ _ => trivial) (fun k x H1 H2 hk s1 y Q1 R1 q1 _ => ?_) fun H1 s1 hD1 => ?_
          · obtain ⟨rfl, c, hc, rfl⟩ := y
            have hc2 : z.cps.toList[k]? = some c := by rw [Array.getElem?_toList]; exact hc
            rw [hc2] at q1
            walk_at "rr"
            refine ⟨rfl, k_yes ?_⟩
            walk_at "rr"
            refine ⟨_, _, rfl, rfl, ?_⟩
            rw [let_is (as c (List.mem_of_getElem? hc2))]
            exact q1 rfl _ (Same.refl _)
          · rw [range_all, show z.cps.size = z.cps.toList.length from (Array.length_toList ..).symm, range_get z.cps.toList _ (fun c => V.bl (isLet c)) (fun k x e => by rw [e])] at hD1
            walk_at "rr"
            refine ⟨D, z.cps.toList.map isLet, rfl, SqL.of (by rw [hD1, List.map_map]; rfl), ?_⟩
            have := k2 H1 s1
            unfold isNameB at this
            rw [decide_eq_true (by omega), decide_eq_true (by omega)] at this
            rw [List.all_map]
            exact this
        · exact bad (by unfold isNameB; rw [decide_eq_false (p := z.length ≤ 8) (by omega)]; simp) _ (Same.refl _)
      · exact ⟨false, rfl, k_ifFf (bad (by unfold isNameB; rw [decide_eq_false (p := 1 ≤ z.length) (by omega)]; simp) _ (Same.refl _))⟩
    · have e1 : isS d = false := by
        cases d with
        | str z => exact absurd ⟨z, rfl⟩ hs
        | _ => rfl
      have e2 : nmB d = false := by
        cases d with
        | str z => exact absurd ⟨z, rfl⟩ hs
        | _ => rfl
      refine ⟨false, by rw [e1], k_ifFf ?_⟩
      have := k _ (Same.refl _)
      rw [e2] at this
      exact this
def tupN (n : Nat) : PyData → Bool
  | .tuple ds => decide (ds.length = n)
  | _ => false
def spTuple : Sp := fun vs H Q _ => ∃ (v : V) (d : PyData) (n : Nat), vs = [v, .int n] ∧ Dq H v d ∧ Q (.bl (tupN n d)) H
theorem ok_tuple {f : Addr} {fd : FuncData} (F : Fun K "is_tuple" "is_tuple" s_is_tuple f fd) (z_isinstance : mg "isinstance" = none) (z_tuple : mg "tuple" = none) (z_len : mg "len" = none) :
    FnOk P w K mg base CX0 1 f fd ["thing", "size"] spTuple := by
  have nd := sc_is_tuple.nd
  refine F.ok sc_is_tuple (fun vs H Q E h => ?_) (fun cdv A up s H vs Q E hr h => ?_)
  · obtain ⟨v, d, n, rfl, _⟩ := h
    rfl
  · obtain ⟨v, d, n, rfl, hd, k⟩ := h
    refine ⟨_, (pss_one (ps_ret (pe_and (pe_callB call_isi (by rfl) z_isinstance (by decide +kernel) (pa_cons (pv 0) (pa_cons (pe_bltn (v := .ty "tuple") (by rfl) z_tuple PyProof.Rows.boot_tuple rfl) pa_nil))) (pe_one (pe_cmpR op_eq (pe_callB (c_lenK (K := K) rfl) (by rfl) z_len (by decide +kernel) (pa_cons (pv 0) pa_nil)) (pv 1) (nomark _)))))), ?_⟩
    walk_at "rr"
    refine isi_tup hd ?_
    cases hd with
    | tup ha hs =>
      refine ⟨true, rfl, k_ifTt ?_⟩
      walk_at "rr"
      walk_at "rr"
      have l := hs.len
      have e : ∀ {ds : List PyData} {xs : List V}, xs.length = ds.length → tupN n (.tuple ds) = decide (V.int xs.length = V.int (n : Int)) := fun l => by
        refine decide_eq_decide.mpr ?_
        rw [← l]
        exact ⟨fun h => by rw [h], fun h => by have := V.int.inj h; omega⟩
      rw [e l] at k
      exact k
    | _ => exact ⟨false, rfl, k_ifFf k⟩
def ascL (zs : List Str) : List Bool := List.zipWith (fun a b => decide (sLt a b)) zs (zs.drop 1)
def ascB (zs : List Str) : Bool := (ascL zs).all id
theorem slt_trans {a b c : Str} (h : sLt a b) (h2 : sLt b c) : sLt a c := List.lt_trans h h2
theorem ascB_iff : ∀ zs : List Str, ascB zs = decide (zs.Pairwise sLt)
  | [] => by simp [ascB, ascL]
  | [z] => by simp [ascB, ascL]
  | x :: y :: zs => by
    have ih := ascB_iff (y :: zs)
    have e : ascB (x :: y :: zs) = (decide (sLt x y) && ascB (y :: zs)) := by simp [ascB, ascL]
    rw [e, ih]
    by_cases h : sLt x y
    · rw [decide_eq_true h, Bool.true_and]
      refine decide_eq_decide.mpr ⟨fun p => ?_, fun p => (List.pairwise_cons.mp p).2⟩
      refine List.pairwise_cons.mpr ⟨fun z hz => ?_, p⟩
      rcases List.mem_cons.mp hz with rfl | hz
      · exact h
      · exact slt_trans h ((List.pairwise_cons.mp p).1 z hz)
    · rw [decide_eq_false h, Bool.false_and]
      exact (decide_eq_false fun p => h ((List.pairwise_cons.mp p).1 y List.mem_cons_self)).symm
def spAscB : Sp := fun vs H Q _ => ∃ (a : Addr) (zs : List Str), vs = [.ref a] ∧ H a = some (.tup (zs.map V.str)) ∧ zs.length ≤ 4000 ∧ ∀ H', Same H H' → Q (.bl (decide (zs.Pairwise sLt))) H'
theorem ok_ascB {f : Addr} {fd : FuncData} (F : Fun K "is_ascending" "is_ascending" s_is_ascending f fd) (z_zip : mg "zip" = none) (z_all : mg "all" = none) :
    FnOk P w K mg base CX0 1 f fd ["things"] spAscB := by
  have nd := sc_is_ascending.nd
  refine F.ok sc_is_ascending (fun vs H Q E h => ?_) (fun cdv A up s H vs Q E hr h => ?_)
  · obtain ⟨a, zs, rfl, _⟩ := h
    rfl
  · obtain ⟨a, zs, rfl, ha, hl, k⟩ := h
    refine ⟨_, (pss_one (ps_ret (pe_callB (cr_all rfl) (by rfl) z_all (by decide +kernel) (pa_cons (pe_lc (own := [("one", 1), ("other", 2)]) (g := (gTup K 2 (gCons (gName 1) (gCons (gName 2) gNil)))) (tt := tYes) (te := (tOp _ (tVar 1) (tVar 2))) (by rfl) nd (RZ.pi_zipA (by rfl) z_zip (pa_cons (pv 0) (pa_cons (pe_slice sl_tupA (pv 0) (po_some pe_int) po_none) pa_nil))) (blkOk_by (own := [("one", 1), ("other", 2)]) (N := ["things", "one", "other"]) (sc := defScope s_is_ascending) (by decide +kernel)) (fun _ _ _ _ _ => by exact (pg_tup rfl (pgs_cons (pg_name (i := 1) nd rfl (Or.inl rfl)) (pgs_cons (pg_name (i := 2) nd rfl (Or.inl rfl)) pgs_nil)))) (fun _ _ _ _ _ => by exact pts_nil) (fun _ _ _ _ _ => by exact (pe_cmpR op_lt_str (pv 1) (pv 2) (nomark _)))) pa_nil)))), ?_⟩
    walk_at "rr"
    refine sla_of ha cut_from fun b H1 s1 hb => ?_
    rw [← List.map_drop] at hb
    walk_at "rr"
    have la : (ascL zs).length = zs.length - 1 := by
      unfold ascL
      rw [List.length_zipWith, List.length_drop]
      omega
    refine ⟨a, b, _, _, rfl, .inr ⟨SqT.of (s1 _ _ ha), SqT.of hb, fun D hD => ?_⟩⟩
    refine lc_same (walk_zipT (n := zs.length - 1) (by simp only [List.length_map, List.length_drop]; omega)) (fun i => match (ascL zs)[i]? with | some t => .bl t | none => .non) (fun _ => true) (by omega) hD (fun H2 s2 => ⟨SqT.of (s2 _ _ (s1 _ _ ha)), SqT.of (s2 _ _ hb)⟩) (fun k x H2 H3 hk s2 y Q1 R1 q1 _ => ?_) fun H2 s2 hD1 => ?_
    · obtain ⟨T, x1, x2, rfl, hT, rfl, e1, e2⟩ := y
      have e1 : (zs.map V.str)[k]? = some x1 := e1
      have e2 : ((zs.drop 1).map V.str)[k]? = some x2 := e2
      rw [List.getElem?_map] at e1 e2
      obtain ⟨y1, f1, rfl⟩ := Option.map_eq_some_iff.mp e1
      obtain ⟨y2, f2, rfl⟩ := Option.map_eq_some_iff.mp e2
      have ea : (ascL zs)[k]? = some (decide (sLt y1 y2)) := by
        unfold ascL
        rw [List.getElem?_zipWith, f1, f2]
      rw [ea] at q1
      refine k_gTup (SqT.of upd_same) rfl ?_
      walk_at "rr"
      refine ⟨rfl, k_yes ?_⟩
      walk_at "rr"
      exact ⟨y1, y2, rfl, rfl, q1 rfl _ (Same.upd hT)⟩
    · rw [range_all, ← la, range_get (ascL zs) _ V.bl (fun k x e => by rw [e])] at hD1
      walk_at "rr"
      refine ⟨D, ascL zs, rfl, SqL.of hD1, ?_⟩
      have := k H2 (s1.trans s2)
      rw [← ascB_iff] at this
      exact this
end
end K01

set_option Elab.async false
set_option maxRecDepth 100000
set_option maxHeartbeats 4000000
set_option linter.unusedVariables false
namespace K01
open PySem PySem.Spec PyProof.Rows L2 Own
-- steps
local macro_rules | `(tactic| walk_at "lk") => `(tactic| first
  | assumption | exact upd_same
  | ((with_reducible refine' lk_new ?e (by assumption)); (case e => walk_at "lk"))
  | ((with_reducible refine' lk_ext (by assumption) ?e); (case e => walk_at "lk"))
  | ((with_reducible refine' lk_same (by assumption) ?e); (case e => walk_at "lk")))
local macro_rules | `(tactic| walk_at "sq") => `(tactic| first | assumption | exact SqL.of (by walk_at "lk") | exact SqT.of (by walk_at "lk"))
local macro_rules | `(tactic| walk_at "r1") => `(tactic| first
  | with_reducible refine k_seq ?_ | with_reducible refine k_asg ?_ | with_reducible refine k_ret ?_ | with_reducible refine k_drop ?_ | with_reducible refine k_next ?_ | with_reducible refine k_ifS ?_
  | ((with_reducible refine' k_var ?e ?_); (case e => exact rfl)) | with_reducible refine k_c ?_ | with_reducible refine k_op ?_ | with_reducible refine k_un ?_ | with_reducible refine k_test ?_ | with_reducible refine k_B ?_
  | with_reducible refine k_and ?_ | with_reducible refine k_or ?_ | with_reducible refine k_not ?_ | with_reducible refine k_andV ?_ | with_reducible refine k_orV ?_ | with_reducible refine k_notV ?_ | with_reducible refine k_if ?_
  | with_reducible refine k_nil ?_ | with_reducible refine k_cons ?_ | with_reducible refine k_tup ?_ | with_reducible refine k_lst ?_ | with_reducible refine k_call ?_ | with_reducible refine k_cb ?_ | with_reducible refine k_ck ?_
  | with_reducible refine k_par ?_ | with_reducible refine k_par1 ?_ | with_reducible refine k_tr ?_ | with_reducible refine k_rI0 ?_ | with_reducible refine k_rU ?_
  | with_reducible refine k_gN ?_ | with_reducible refine k_gS ?_ | with_reducible refine k_gNil ?_ | with_reducible refine k_gCons ?_ | with_reducible refine k_bm0 ?_ | with_reducible refine k_bm ?_
  | with_reducible refine k_for ?_ | with_reducible refine k_iL ?_ | with_reducible refine k_iT ?_ | with_reducible refine k_iR1 ?_ | ((with_reducible refine k_iR1i ?e ?_); (case e => first | decide | exact ⟨by omega, by omega⟩))
  | with_reducible refine k_max ?_ | with_reducible refine k_isB ?_ | with_reducible refine k_sl ?_ | with_reducible refine k_noP ?_ | with_reducible refine k_part ?_ | with_reducible refine k_partI ?_ | with_reducible refine k_revL ?_
  | ((with_reducible refine' k_ixqT ?e ?f ?_); (case e => walk_at "sq"); (case f => first | exact rfl | exact atI_head))
  | ((with_reducible refine' k_ixqL ?e ?f ?_); (case e => walk_at "sq"); (case f => first | exact rfl | exact atI_head))
  | ((with_reducible refine' k_lenL ?e ?_); (case e => walk_at "sq"))
  | ((with_reducible refine' k_lenT ?e ?_); (case e => walk_at "sq"))
  | ((with_reducible refine' k_ixL ?e ?f ?_); (case e => walk_at "sq"); (case f => first | exact rfl | exact atI_head))
  | ((with_reducible refine' k_ixT ?e ?f ?_); (case e => walk_at "sq"); (case f => first | exact rfl | exact atI_head))
  | ((with_reducible refine k_eq ?e ?_); (case e => exact rfl)) | ((with_reducible refine k_ne ?e ?_); (case e => exact rfl))
  | ((with_reducible refine k_rI ?e ?_); (case e => first | assumption | omega | decide | exact ⟨by omega, by omega⟩ | exact .inl ⟨by omega, by omega⟩ | exact .inr ⟨by omega, by omega⟩)))
local macro_rules | `(tactic| walk_at "rd") => `(tactic| repeat walk_at "r1")
local macro_rules | `(tactic| walk_at "r2") => `(tactic| first
  | walk_at "r1"
  | with_reducible refine k_ifTt ?_ | with_reducible refine k_ifFf ?_ | with_reducible refine k_ifNt ?_ | with_reducible refine k_ifNf ?_
  | with_reducible refine k_makeR ?_ | with_reducible refine k_tJ ?_ | with_reducible refine k_tJc ?_ | with_reducible refine k_tJn ?_ | with_reducible refine k_fmt ?_ | with_reducible refine k_lc ?_ | with_reducible refine k_din ?_ | with_reducible refine k_fld ?_ | with_reducible refine k_dget ?_
  | with_reducible refine k_dput ?_
  | with_reducible refine k_isNv ?_
  | with_reducible refine k_notNv ?_
  | with_reducible refine k_str ?_
  | with_reducible refine k_enumT ?_
  | with_reducible refine k_zipA ?_
  | with_reducible refine k_chain ?_
  | ((with_reducible refine' k_dgS ?e dkv_cells ?_); (case e => walk_at "lk"))
  | ((with_reducible refine' k_dgS ?e dkv_mixed ?_); (case e => walk_at "lk"))
  | ((with_reducible refine' k_dgS ?e dkv_turn ?_); (case e => walk_at "lk")))
local macro_rules | `(tactic| walk_at "rr") => `(tactic| repeat walk_at "r2")
-- steps end
/-- a table -/
structure T where
  nm : Str
  cs : List Str
  is : List Str
  ks : List Str
structure T.Ok (t : T) : Prop where
  nm : isNameB t.nm = true
  c1 : 1 ≤ t.cs.length
  c3 : t.cs.length ≤ 3
  cn : ∀ z ∈ t.cs, isNameB z = true
  cd : t.cs.Nodup
  ii : ∀ z ∈ t.is, z ∈ t.cs
  ia : t.is.Pairwise sLt
  ki : ∀ z ∈ t.ks, z ∈ t.cs
  ka : t.ks.Pairwise sLt
def TAt (H : Hp) (a : Addr) (t : T) : Prop := ∃ c i k : Addr, H a = some (.tup [.str t.nm, .ref c, .ref i, .ref k]) ∧ H c = some (.tup (t.cs.map V.str)) ∧ H i = some (.tup (t.is.map V.str)) ∧ H k = some (.tup (t.ks.map V.str))
theorem TAt.same {H H' : Hp} {a : Addr} {t : T} (h : TAt H a t) (s : Same H H') : TAt H' a t := by
  obtain ⟨c, i, k, h1, h2, h3, h4⟩ := h
  exact ⟨c, i, k, s _ _ h1, s _ _ h2, s _ _ h3, s _ _ h4⟩
theorem asc_nodup {zs : List Str} (h : zs.Pairwise sLt) : zs.Nodup := h.imp fun {a b} l e => by
  subst e
  exact absurd l (List.lt_irrefl _)
theorem some_len {zs cs : List Str} (h : zs.Pairwise sLt) (i : ∀ z ∈ zs, z ∈ cs) : zs.length ≤ cs.length := sub_len (asc_nodup h) i
def strsD (zs : List Str) : PyData := .tuple (zs.map .str)
def T.data (t : T) : PyData := .tuple [.str t.nm, strsD t.cs, strsD t.is, strsD t.ks]
def IsCols (d : PyData) : Prop := ∃ zs : List Str, d = strsD zs ∧ (∀ z ∈ zs, isNameB z = true) ∧ 1 ≤ zs.length ∧ zs.length ≤ 3 ∧ zs.Nodup
def IsSome (d : PyData) (cs : List Str) : Prop := ∃ zs : List Str, d = strsD zs ∧ (∀ z ∈ zs, z ∈ cs) ∧ zs.Pairwise sLt
def IsTab (d : PyData) : Prop := ∃ t : T, t.Ok ∧ d = t.data
theorem strs_inj : ∀ {zs ys : List Str}, zs.map PyData.str = ys.map PyData.str → zs = ys
  | [], [], _ => rfl
  | z :: zs, y :: ys, h => by
    rw [List.map_cons, List.map_cons] at h
    injection h with h1 h2
    injection h1 with h1
    rw [h1, strs_inj h2]
  | [], _ :: _, h => by cases h
  | _ :: _, [], h => by cases h
theorem strsD_inj {zs ys : List Str} (h : strsD zs = strsD ys) : zs = ys := by
  unfold strsD at h
  injection h with h
  exact strs_inj h
theorem tab_iff {d0 d1 d2 d3 : PyData} {cs : List Str} (h : d1 = strsD cs) : IsTab (.tuple [d0, d1, d2, d3]) ↔ nmB d0 = true ∧ IsCols d1 ∧ IsSome d2 cs ∧ IsSome d3 cs := by
  constructor
  · rintro ⟨t, ok, e⟩
    unfold T.data at e
    injection e with e
    injection e with e0 e
    injection e with e1 e
    injection e with e2 e
    injection e with e3 e
    subst e0
    have ec : t.cs = cs := strsD_inj (e1.symm.trans h)
    subst ec
    exact ⟨ok.nm, ⟨_, h, ok.cn, ok.c1, ok.c3, ok.cd⟩, ⟨_, e2, ok.ii, ok.ia⟩, ⟨_, e3, ok.ki, ok.ka⟩⟩
  · rintro ⟨h0, ⟨zs, e1, a1, a2, a3, a4⟩, ⟨is, e2, b1, b2⟩, ⟨ks, e3, c1, c2⟩⟩
    have ez : zs = cs := strsD_inj (e1.symm.trans h)
    subst ez
    cases d0 with
    | str z => exact ⟨⟨z, zs, is, ks⟩, ⟨h0, a2, a3, a1, a4, b1, b2, c1, c2⟩, by rw [e1, e2, e3]; rfl⟩
    | _ => cases h0
theorem all_names {H : Hp} : ∀ {ds : List PyData} {xs : List V}, DqAll H xs ds → (ds.map nmB).all id = true → ∃ zs : List Str, xs = zs.map V.str ∧ ds = zs.map .str ∧ ∀ z ∈ zs, isNameB z = true
  | [], _, .nil, _ => ⟨[], rfl, rfl, fun _ z => by cases z⟩
  | d :: ds, _, .cons a b, h => by
    rw [List.map_cons, List.all_cons, Bool.and_eq_true] at h
    obtain ⟨zs, h1, h2, h3⟩ := all_names b h.2
    have hd : nmB d = true := h.1
    cases d with
    | str z =>
      cases a
      refine ⟨z :: zs, by rw [h1]; rfl, by rw [h2]; rfl, fun y hy => ?_⟩
      rcases List.mem_cons.mp hy with rfl | hy
      · exact hd
      · exact h3 y hy
    | _ => cases hd
theorem all_in {H : Hp} {cs : List Str} : ∀ {ds : List PyData} {xs : List V}, DqAll H xs ds → (ds.map fun d => isIn d cs).all id = true → ∃ zs : List Str, xs = zs.map V.str ∧ ds = zs.map .str ∧ ∀ z ∈ zs, z ∈ cs
  | [], _, .nil, _ => ⟨[], rfl, rfl, fun _ z => by cases z⟩
  | d :: ds, _, .cons a b, h => by
    rw [List.map_cons, List.all_cons, Bool.and_eq_true] at h
    obtain ⟨zs, h1, h2, h3⟩ := all_in b h.2
    have hd : isIn d cs = true := h.1
    cases d with
    | str z =>
      cases a
      refine ⟨z :: zs, by rw [h1]; rfl, by rw [h2]; rfl, fun y hy => ?_⟩
      rcases List.mem_cons.mp hy with rfl | hy
      · exact of_decide_eq_true hd
      · exact h3 y hy
    | _ => cases hd
theorem strs_names {zs : List Str} (h : ∀ z ∈ zs, isNameB z = true) : ((zs.map PyData.str).map nmB).all id = true := by
  rw [List.all_eq_true]
  intro b hb
  rw [List.map_map] at hb
  obtain ⟨z, hz, rfl⟩ := List.mem_map.mp hb
  exact h z hz
theorem strs_in {zs cs : List Str} (h : ∀ z ∈ zs, z ∈ cs) : ((zs.map PyData.str).map fun d => isIn d cs).all id = true := by
  rw [List.all_eq_true]
  intro b hb
  rw [List.map_map] at hb
  obtain ⟨z, hz, rfl⟩ := List.mem_map.mp hb
  exact decide_eq_true (h z hz)
theorem fa_len {n W D : Nat} : ∀ {ds : List PyData}, FA n W D ds → ds.length ≤ W
  | [], _ => Nat.zero_le _
  | d :: ds, f => by
    have e : PyData.weightAll (d :: ds) = d.weight + 1 + PyData.weightAll ds := rfl
    have w := f.we
    have := fa_len (ds := ds) (n := n) (W := PyData.weightAll ds) (D := D) ⟨f.tl.fi, Nat.le_refl _, f.tl.de⟩
    simp only [List.length_cons]
    omega
section
variable {P : Program} {w : World} {K : PySem.W.Frag} {mg : Str → Option Value} {base : Heap}
open Classical in
def spCols : Sp := fun vs H Q _ => ∃ (v : V) (d : PyData), vs = [v] ∧ Dq H v d ∧ Ok1 d ∧ ∀ H', Same H H' → Q (.bl (decide (IsCols d))) H'
open Classical in
theorem ok_cols {f : Addr} {fd : FuncData} (F : Fun K "_are_columns" "_are_columns" s__are_columns f fd) (C_is_name : CalF P w K mg base "is_name" 1 ["thing"] spName)
    (z_isinstance : mg "isinstance" = none) (z_tuple : mg "tuple" = none) (z_len : mg "len" = none) (z_all : mg "all" = none) (z_set : mg "set" = none) {t : Tok} (c_MOST_COLUMNS : mg "MOST_COLUMNS" = some (.int 3 t)) :
    FnOk P w K mg base CX0 2 f fd ["thing"] spCols := by
  have nd := sc__are_columns.nd
  refine F.ok sc__are_columns (fun vs H Q E h => ?_) (fun cdv A up s H vs Q E hr h => ?_)
  · obtain ⟨v, d, rfl, _⟩ := h
    rfl
  · obtain ⟨v, d, rfl, hd, fd1, k⟩ := h
    have bad : ¬ IsCols d → ∀ H', Same H H' → Q (.bl false) H' := fun h H' s' => by
      have := k H' s'
      rw [decide_eq_false h] at this
      exact this
    refine ⟨_, (pss_cons (ps_if (PW.pt (pw_or (pt_not (pt_val (pe_callB call_isi (by rfl) z_isinstance (by decide +kernel) (pa_cons (pv 0) (pa_cons (pe_bltn (v := .ty "tuple") (by rfl) z_tuple PyProof.Rows.boot_tuple rfl) pa_nil))))) (pw_or1 (pt_not (pt_chain op_le op_le pe_int (pe_callB (c_lenK (K := K) rfl) (by rfl) z_len (by decide +kernel) (pa_cons (pv 0) pa_nil)) (pe_glob (v := .int 3) rfl c_MOST_COLUMNS ⟨_, rfl⟩)))))) (pss_one (ps_ret pe_bl)) pss_nil)
        (pss_one (ps_ret (pe_and (pe_callB (cr_all rfl) (by rfl) z_all (by decide +kernel) (pa_cons (pe_lc (own := [("column", 1)]) (g := (gName 1)) (tt := tYes) (te := (tCall _ [] E0 (tCons (tVar 1) tNil))) (by rfl) nd (pi_tup (pv 0)) (blkOk_by (own := [("column", 1)]) (N := ["thing", "column"]) (sc := defScope s__are_columns) (by decide +kernel)) (fun _ _ _ _ _ => by exact (pg_name (i := 1) nd rfl (Or.inl rfl))) (fun _ _ _ _ _ => by exact pts_nil) (fun _ _ _ _ _ => by exact (pe_cf C_is_name (hr.mono (by decide)) (pa_cons (pv 1) pa_nil)))) pa_nil)) (pe_one (pe_cmpR op_eq (pe_callB call_lenK (by rfl) z_len (by decide +kernel) (pa_cons (pe_callTy (call_setS rfl) (by rfl) z_set (by decide +kernel) (pa_cons (pv 0) pa_nil)) pa_nil)) (pe_callB (c_lenK (K := K) rfl) (by rfl) z_len (by decide +kernel) (pa_cons (pv 0) pa_nil)) (nomark _))))))), ?_⟩
    walk_at "rr"
    refine isi_tup hd ?_
    by_cases ht : ∃ ds, d = .tuple ds
    · obtain ⟨ds, rfl⟩ := ht
      cases hd with
      | @tup a xs _ ha hs =>
      have l := hs.len
      have fa : FA 1000 4000 49 ds := fd1.inT
      have inj : ∀ {zs : List Str}, PyData.tuple ds = strsD zs → ds = zs.map .str := fun h => by
        unfold strsD at h
        injection h
      refine ⟨true, rfl, ?_⟩
      walk_at "rr"
      refine k_iteD (fun z1 => ?_) fun z1 => ?_
      · walk_at "rr"
        by_cases z2 : (xs.length : Int) ≤ 3
        · refine k_sureN z2 ?_
          walk_at "rr"
          refine ⟨_, rfl, ⟨_, SqT.of ha⟩, fun D hD => ?_⟩
          refine lc_same (walk_tup (xs := xs)) (fun i => match ds[i]? with | some d => .bl (nmB d) | none => .non) (fun _ => true) (by omega) hD (fun H2 s2 => SqT.of (s2 _ _ ha)) (fun k x H2 H3 hk s2 y Q1 R1 q1 _ => ?_) fun H2 s2 hD1 => ?_
          · obtain ⟨rfl, y⟩ := y
            have e : xs[k]? = some x := y
            obtain ⟨d, hd, dq⟩ := hs.get e
            rw [hd] at q1
            walk_at "rr"
            refine ⟨rfl, k_yes ?_⟩
            walk_at "rr"
            exact ⟨x, d, rfl, dq.same s2, (FD.get fa hd).mono (Nat.le_refl _) (Nat.le_refl _) (by decide), fun H4 s4 => q1 rfl _ s4⟩
          · rw [range_all, l, range_get ds _ (fun d => V.bl (nmB d)) (fun k x e => by rw [e])] at hD1
            walk_at "rr"
            refine ⟨D, ds.map nmB, rfl, SqL.of (by rw [hD1, List.map_map]; rfl), ?_⟩
            by_cases al : (ds.map nmB).all id = true
            · rw [al]
              obtain ⟨zs, rfl, rfl, hn⟩ := all_names hs al
              rw [List.length_map] at z1 z2
              walk_at "rr"
              refine ⟨a, zs, rfl, .inr (SqT.of (s2 _ _ ha)), by omega, fun p c hp hc => ?_⟩
              walk_at "rr"
              refine ⟨p, _, _, rfl, upd_same, ?_⟩
              walk_at "rr"
              have := k _ (s2.trans (Same.upd (o := SetK P w p (TxtIn zs) c) hp))
              rw [show decide (IsCols (.tuple (zs.map .str))) = decide (V.int c = V.int ((zs.map V.str).length : Nat)) from decide_eq_decide.mpr ?_] at this
              · exact this
              · rw [List.length_map]
                constructor
                · rintro ⟨ys, e, _, _, _, nd⟩
                  obtain rfl := strs_inj (inj e)
                  rw [hc.2.mpr nd]
                · intro e
                  have e2 := V.int.inj e
                  exact ⟨zs, rfl, hn, by omega, by omega, hc.2.mp (by omega)⟩
            · rw [Bool.not_eq_true] at al
              rw [al]
              walk_at "rr"
              refine bad ?_ _ s2
              rintro ⟨zs, e, hn, _⟩
              rw [inj e, strs_names hn] at al
              cases al
        · refine k_notN1 z2 ?_
          walk_at "rr"
          refine bad ?_ _ (Same.refl _)
          rintro ⟨zs, e, _, _, h3, _⟩
          have := inj e
          rw [l, this, List.length_map] at z2
          omega
      · walk_at "rr"
        refine bad ?_ _ (Same.refl _)
        rintro ⟨zs, e, _, h1, _⟩
        have := inj e
        rw [l, this, List.length_map] at z1
        omega
    · have e1 : isT d = false := by
        cases d with
        | tuple ds => exact absurd ⟨ds, rfl⟩ ht
        | _ => rfl
      rw [e1]
      refine ⟨false, rfl, ?_⟩
      walk_at "rr"
      refine bad ?_ _ (Same.refl _)
      rintro ⟨zs, e, _⟩
      exact ht ⟨_, e⟩
open Classical in
def spSome : Sp := fun vs H Q _ => ∃ (v : V) (d : PyData) (c : Addr) (cs : List Str), vs = [v, .ref c] ∧ Dq H v d ∧ Ok1 d ∧ H c = some (.tup (cs.map V.str)) ∧ ∀ H', Same H H' → Q (.bl (decide (IsSome d cs))) H'
open Classical in
theorem ok_some {f : Addr} {fd : FuncData} (F : Fun K "_are_some" "_are_some" s__are_some f fd) (C_is_ascending : CalF P w K mg base "is_ascending" 1 ["things"] spAscB)
    (z_isinstance : mg "isinstance" = none) (z_tuple : mg "tuple" = none) (z_all : mg "all" = none) :
    FnOk P w K mg base CX0 2 f fd ["thing", "columns"] spSome := by
  have nd := sc__are_some.nd
  refine F.ok sc__are_some (fun vs H Q E h => ?_) (fun cdv A up s H vs Q E hr h => ?_)
  · obtain ⟨v, d, c, cs, rfl, _⟩ := h
    rfl
  · obtain ⟨v, d, c, cs, rfl, hd, fd1, hc, k⟩ := h
    have bad : ¬ IsSome d cs → ∀ H', Same H H' → Q (.bl false) H' := fun h H' s' => by
      have := k H' s'
      rw [decide_eq_false h] at this
      exact this
    refine ⟨_, (pss_one (ps_ret (pe_and (pe_callB call_isi (by rfl) z_isinstance (by decide +kernel) (pa_cons (pv 0) (pa_cons (pe_bltn (v := .ty "tuple") (by rfl) z_tuple PyProof.Rows.boot_tuple rfl) pa_nil))) (pe_and (pe_callB (cr_all rfl) (by rfl) z_all (by decide +kernel) (pa_cons (pe_lc (own := [("column", 2)]) (g := (gName 2)) (tt := tYes) (te := (tOp _ (tVar 2) (tVar 1))) (by rfl) nd (pi_tup (pv 0)) (blkOk_by (own := [("column", 2)]) (N := ["thing", "columns", "column"]) (sc := defScope s__are_some) (by decide +kernel)) (fun _ _ _ _ _ => by exact (pg_name (i := 2) nd rfl (Or.inl rfl))) (fun _ _ _ _ _ => by exact pts_nil) (fun _ _ _ _ _ => by exact (pe_cmpR (op_inQK (K := K) rfl hr.units) (pv 2) (pv 1) (by rfl)))) pa_nil)) (pe_one (pe_cf C_is_ascending (hr.mono (by decide)) (pa_cons (pv 0) pa_nil))))))), ?_⟩
    walk_at "rr"
    refine isi_tup hd ?_
    by_cases ht : ∃ ds, d = .tuple ds
    · obtain ⟨ds, rfl⟩ := ht
      cases hd with
      | @tup a xs _ ha hs =>
      have l := hs.len
      have fa : FA 1000 4000 49 ds := fd1.inT
      have ll := fa_len fa
      have inj : ∀ {zs : List Str}, PyData.tuple ds = strsD zs → ds = zs.map .str := fun h => by
        unfold strsD at h
        injection h
      refine ⟨true, rfl, ?_⟩
      walk_at "rr"
      refine ⟨_, rfl, ⟨_, SqT.of ha⟩, fun D hD => ?_⟩
      refine lc_same (walk_tup (xs := xs)) (fun i => match ds[i]? with | some d => .bl (isIn d cs) | none => .non) (fun _ => true) (by omega) hD (fun H2 s2 => SqT.of (s2 _ _ ha)) (fun k x H2 H3 hk s2 y Q1 R1 q1 _ => ?_) fun H2 s2 hD1 => ?_
      · obtain ⟨rfl, y⟩ := y
        have e : xs[k]? = some x := y
        obtain ⟨d, hd, dq⟩ := hs.get e
        rw [hd] at q1
        walk_at "rr"
        refine ⟨rfl, k_yes ?_⟩
        walk_at "rr"
        exact ⟨d, c, cs, dq.same s2, rfl, SqT.of (s2 _ _ hc), q1 rfl _ (Same.refl _)⟩
      · rw [range_all, l, range_get ds _ (fun d => V.bl (isIn d cs)) (fun k x e => by rw [e])] at hD1
        walk_at "rr"
        refine ⟨D, ds.map fun d => isIn d cs, rfl, SqL.of (by rw [hD1, List.map_map]; rfl), ?_⟩
        by_cases al : (ds.map fun d => isIn d cs).all id = true
        · rw [al]
          obtain ⟨zs, rfl, rfl, hn⟩ := all_in hs al
          rw [List.length_map] at ll
          walk_at "rr"
          refine ⟨a, zs, rfl, s2 _ _ ha, ll, fun H3 s3 => ?_⟩
          have := k H3 (s2.trans s3)
          rw [show decide (IsSome (.tuple (zs.map .str)) cs) = decide (zs.Pairwise sLt) from decide_eq_decide.mpr ⟨fun ⟨ys, e, _, h⟩ => by rw [strs_inj (inj e)]; exact h, fun h => ⟨zs, rfl, hn, h⟩⟩] at this
          exact this
        · rw [Bool.not_eq_true] at al
          rw [al]
          walk_at "rr"
          refine bad ?_ _ s2
          rintro ⟨zs, e, hn, _⟩
          rw [inj e, strs_in hn] at al
          cases al
    · have e1 : isT d = false := by
        cases d with
        | tuple ds => exact absurd ⟨ds, rfl⟩ ht
        | _ => rfl
      rw [e1]
      refine ⟨false, rfl, ?_⟩
      walk_at "rr"
      refine bad ?_ _ (Same.refl _)
      rintro ⟨zs, e, _⟩
      exact ht ⟨_, e⟩
open Classical in
def spTable : Sp := fun vs H Q _ => ∃ (v : V) (d : PyData), vs = [v] ∧ Dq H v d ∧ Ok1 d ∧ ∀ H', Same H H' → Q (.bl (decide (IsTab d))) H'
open Classical in
theorem ok_table {f : Addr} {fd : FuncData} (F : Fun K "is_table" "is_table" s_is_table f fd) (C_is_name : CalF P w K mg base "is_name" 1 ["thing"] spName) (C_is_tuple : CalF P w K mg base "is_tuple" 1 ["thing", "size"] spTuple)
    (C__are_columns : CalF P w K mg base "_are_columns" 2 ["thing"] spCols) (C__are_some : CalF P w K mg base "_are_some" 2 ["thing", "columns"] spSome) :
    FnOk P w K mg base CX0 3 f fd ["thing"] spTable := by
  have nd := sc_is_table.nd
  refine F.ok sc_is_table (fun vs H Q E h => ?_) (fun cdv A up s H vs Q E hr h => ?_)
  · obtain ⟨v, d, rfl, _⟩ := h
    rfl
  · obtain ⟨v, d, rfl, hd, fd1, k⟩ := h
    have bad : ¬ IsTab d → ∀ H', Same H H' → Q (.bl false) H' := fun h H' s' => by
      have := k H' s'
      rw [decide_eq_false h] at this
      exact this
    refine ⟨_, (pss_cons (ps_if (pt_not (pt_val (pe_cf C_is_tuple (hr.mono (by decide)) (pa_cons (pv 0) (pa_cons pe_int pa_nil))))) (pss_one (ps_ret pe_bl)) pss_nil)
        (pss_cons (ps_asg (pv 0) (pg_tup rfl (pgs_cons (pg_name (i := 1) nd rfl (Or.inl rfl)) (pgs_cons (pg_name (i := 2) nd rfl (Or.inl rfl)) (pgs_cons (pg_name (i := 3) nd rfl (Or.inl rfl)) (pgs_cons (pg_name (i := 4) nd rfl (Or.inl rfl)) pgs_nil))))))
        (pss_one (ps_ret (pe_and (pe_cf C_is_name (hr.mono (by decide)) (pa_cons (pv 1) pa_nil)) (pe_and (pe_cf C__are_columns (hr.mono (by decide)) (pa_cons (pv 2) pa_nil)) (pe_and (pe_cf C__are_some (hr.mono (by decide)) (pa_cons (pv 3) (pa_cons (pv 2) pa_nil))) (pe_one (pe_cf C__are_some (hr.mono (by decide)) (pa_cons (pv 4) (pa_cons (pv 2) pa_nil))))))))))), ?_⟩
    walk_at "rr"
    refine ⟨v, d, 4, rfl, hd, ?_⟩
    by_cases h4 : ∃ d0 d1 d2 d3, d = .tuple [d0, d1, d2, d3]
    · obtain ⟨d0, d1, d2, d3, rfl⟩ := h4
      cases hd with
      | @tup a xs _ ha hs =>
      have fa : FA 1000 4000 49 [d0, d1, d2, d3] := fd1.inT
      have o0 : Ok1 d0 := (FD.get fa (i := 0) rfl).mono (Nat.le_refl _) (Nat.le_refl _) (by decide)
      have o1 : Ok1 d1 := (FD.get fa (i := 1) rfl).mono (Nat.le_refl _) (Nat.le_refl _) (by decide)
      have o2 : Ok1 d2 := (FD.get fa (i := 2) rfl).mono (Nat.le_refl _) (Nat.le_refl _) (by decide)
      have o3 : Ok1 d3 := (FD.get fa (i := 3) rfl).mono (Nat.le_refl _) (Nat.le_refl _) (by decide)
      match xs, hs with
      | [x0, x1, x2, x3], .cons h0 (.cons h1 (.cons h2 (.cons h3 .nil))) =>
      have e4 : tupN 4 (.tuple [d0, d1, d2, d3]) = true := rfl
      rw [e4]
      walk_at "rr"
      refine k_gTup (SqT.of ha) rfl ?_
      walk_at "rr"
      refine ⟨x0, d0, rfl, h0, o0, fun H1 s1 => ?_⟩
      by_cases n0 : nmB d0 = true
      · rw [n0]
        walk_at "rr"
        refine ⟨x1, d1, rfl, h1.same s1, o1, fun H2 s2 => ?_⟩
        by_cases n1 : IsCols d1
        · rw [decide_eq_true n1]
          have n1' := n1
          obtain ⟨cs, rfl, _⟩ := n1'
          have h1' : Dq H2 x1 (strsD cs) := h1.same (s1.trans s2)
          obtain ⟨c, rfl, hc⟩ : ∃ c, x1 = .ref c ∧ H2 c = some (.tup (cs.map V.str)) := by
            unfold strsD at h1'
            cases h1' with
            | @tup c ys _ hc hy =>
              obtain ⟨zs, e1, e2, _⟩ := all_in (cs := cs) hy (strs_in fun z hz => hz)
              obtain rfl := strs_inj e2
              exact ⟨c, rfl, by rw [hc, e1]⟩
          walk_at "rr"
          refine ⟨x2, d2, c, cs, rfl, h2.same (s1.trans s2), o2, hc, fun H3 s3 => ?_⟩
          have iff := tab_iff (d0 := d0) (d2 := d2) (d3 := d3) (cs := cs) rfl
          by_cases n2 : IsSome d2 cs
          · rw [decide_eq_true n2]
            walk_at "rr"
            refine ⟨x3, d3, c, cs, rfl, h3.same ((s1.trans s2).trans s3), o3, s3 _ _ hc, fun H4 s4 => ?_⟩
            have := k H4 (((s1.trans s2).trans s3).trans s4)
            rw [show decide (IsTab (.tuple [d0, strsD cs, d2, d3])) = decide (IsSome d3 cs) from decide_eq_decide.mpr ⟨fun h => (iff.mp h).2.2.2, fun h => iff.mpr ⟨n0, n1, n2, h⟩⟩] at this
            exact this
          · rw [decide_eq_false n2]
            walk_at "rr"
            exact bad (fun h => n2 (iff.mp h).2.2.1) _ ((s1.trans s2).trans s3)
        · rw [decide_eq_false n1]
          walk_at "rr"
          refine bad (fun h => n1 ?_) _ (s1.trans s2)
          obtain ⟨t, ok, e⟩ := h
          unfold T.data at e
          injection e with e
          injection e with _ e
          injection e with e1 _
          exact ⟨t.cs, e1, ok.cn, ok.c1, ok.c3, ok.cd⟩
      · rw [Bool.not_eq_true] at n0
        rw [n0]
        walk_at "rr"
        refine bad (fun h => ?_) _ s1
        obtain ⟨t, ok, e⟩ := h
        unfold T.data at e
        injection e with e
        injection e with e0 _
        rw [e0] at n0
        have := ok.nm
        rw [show isNameB t.nm = false from n0] at this
        cases this
    · have e4 : tupN 4 d = false := by
        cases d with
        | tuple ds =>
          refine decide_eq_false fun l => h4 ?_
          match ds, l with
          | [d0, d1, d2, d3], _ => exact ⟨d0, d1, d2, d3, rfl⟩
        | _ => rfl
      rw [e4]
      walk_at "rr"
      refine bad (fun h => ?_) _ (Same.refl _)
      obtain ⟨t, _, e⟩ := h
      exact h4 ⟨_, _, _, _, e⟩
end
end K01

set_option Elab.async false
set_option maxRecDepth 100000
set_option maxHeartbeats 4000000
set_option linter.unusedVariables false
set_option linter.unusedSimpArgs false
namespace K01
open PySem PySem.Spec PyProof.Rows L2 Own
-- steps
local macro_rules | `(tactic| walk_at "lk") => `(tactic| first
  | assumption | exact upd_same
  | ((with_reducible refine' lk_new ?e (by assumption)); (case e => walk_at "lk"))
  | ((with_reducible refine' lk_ext (by assumption) ?e); (case e => walk_at "lk"))
  | ((with_reducible refine' lk_same (by assumption) ?e); (case e => walk_at "lk")))
local macro_rules | `(tactic| walk_at "sq") => `(tactic| first | assumption | exact SqL.of (by walk_at "lk") | exact SqT.of (by walk_at "lk"))
local macro_rules | `(tactic| walk_at "r1") => `(tactic| first
  | with_reducible refine k_seq ?_ | with_reducible refine k_asg ?_ | with_reducible refine k_ret ?_ | with_reducible refine k_drop ?_ | with_reducible refine k_next ?_ | with_reducible refine k_ifS ?_
  | ((with_reducible refine' k_var ?e ?_); (case e => exact rfl)) | with_reducible refine k_c ?_ | with_reducible refine k_op ?_ | with_reducible refine k_un ?_ | with_reducible refine k_test ?_ | with_reducible refine k_B ?_
  | with_reducible refine k_and ?_ | with_reducible refine k_or ?_ | with_reducible refine k_not ?_ | with_reducible refine k_andV ?_ | with_reducible refine k_orV ?_ | with_reducible refine k_notV ?_ | with_reducible refine k_if ?_
  | with_reducible refine k_nil ?_ | with_reducible refine k_cons ?_ | with_reducible refine k_tup ?_ | with_reducible refine k_lst ?_ | with_reducible refine k_call ?_ | with_reducible refine k_cb ?_ | with_reducible refine k_ck ?_
  | with_reducible refine k_par ?_ | with_reducible refine k_par1 ?_ | with_reducible refine k_tr ?_ | with_reducible refine k_rI0 ?_ | with_reducible refine k_rU ?_
  | with_reducible refine k_gN ?_ | with_reducible refine k_gS ?_ | with_reducible refine k_gNil ?_ | with_reducible refine k_gCons ?_ | with_reducible refine k_bm0 ?_ | with_reducible refine k_bm ?_
  | with_reducible refine k_for ?_ | with_reducible refine k_iL ?_ | with_reducible refine k_iT ?_ | with_reducible refine k_iR1 ?_ | ((with_reducible refine k_iR1i ?e ?_); (case e => first | decide | exact ⟨by omega, by omega⟩))
  | with_reducible refine k_max ?_ | with_reducible refine k_isB ?_ | with_reducible refine k_sl ?_ | with_reducible refine k_noP ?_ | with_reducible refine k_part ?_ | with_reducible refine k_partI ?_ | with_reducible refine k_revL ?_
  | ((with_reducible refine' k_ixqT ?e ?f ?_); (case e => walk_at "sq"); (case f => first | exact rfl | exact atI_head))
  | ((with_reducible refine' k_ixqL ?e ?f ?_); (case e => walk_at "sq"); (case f => first | exact rfl | exact atI_head))
  | ((with_reducible refine' k_lenL ?e ?_); (case e => walk_at "sq"))
  | ((with_reducible refine' k_lenT ?e ?_); (case e => walk_at "sq"))
  | ((with_reducible refine' k_ixL ?e ?f ?_); (case e => walk_at "sq"); (case f => first | exact rfl | exact atI_head))
  | ((with_reducible refine' k_ixT ?e ?f ?_); (case e => walk_at "sq"); (case f => first | exact rfl | exact atI_head))
  | ((with_reducible refine k_eq ?e ?_); (case e => exact rfl)) | ((with_reducible refine k_ne ?e ?_); (case e => exact rfl))
  | ((with_reducible refine k_rI ?e ?_); (case e => first | assumption | omega | decide | exact ⟨by omega, by omega⟩ | exact .inl ⟨by omega, by omega⟩ | exact .inr ⟨by omega, by omega⟩)))
local macro_rules | `(tactic| walk_at "rd") => `(tactic| repeat walk_at "r1")
local macro_rules | `(tactic| walk_at "r2") => `(tactic| first
  | walk_at "r1"
  | with_reducible refine k_ifTt ?_ | with_reducible refine k_ifFf ?_ | with_reducible refine k_ifNt ?_ | with_reducible refine k_ifNf ?_
  | with_reducible refine k_makeR ?_ | with_reducible refine k_tJ ?_ | with_reducible refine k_tJc ?_ | with_reducible refine k_tJn ?_ | with_reducible refine k_fmt ?_ | with_reducible refine k_lc ?_ | with_reducible refine k_din ?_ | with_reducible refine k_fld ?_ | with_reducible refine k_dget ?_
  | with_reducible refine k_dput ?_
  | with_reducible refine k_isNv ?_
  | with_reducible refine k_notNv ?_
  | with_reducible refine k_str ?_
  | with_reducible refine k_enumT ?_
  | with_reducible refine k_zipA ?_
  | with_reducible refine k_chain ?_
  | ((with_reducible refine' k_dgS ?e dkv_cells ?_); (case e => walk_at "lk"))
  | ((with_reducible refine' k_dgS ?e dkv_mixed ?_); (case e => walk_at "lk"))
  | ((with_reducible refine' k_dgS ?e dkv_turn ?_); (case e => walk_at "lk")))
local macro_rules | `(tactic| walk_at "rr") => `(tactic| repeat walk_at "r2")
-- steps end
theorem ltc : ∀ a b : List Nat, ltCps a b = decide (a < b)
  | [], [] => by simp [ltCps]
  | [], b :: bs => by simp [ltCps]
  | a :: as, [] => by simp [ltCps]
  | a :: as, b :: bs => by
    have ih := ltc as bs
    simp only [ltCps, ih]
    by_cases h : a < b
    · simp [h, List.cons_lt_cons_iff]
    · by_cases e : a = b
      · subst e
        simp [List.cons_lt_cons_iff]
      · simp [h, e, List.cons_lt_cons_iff]
theorem ris : ∀ (r : List Str) (x : Str), risingS x r = true → (x :: r).Pairwise fun a b => ¬ b.cps.toList < a.cps.toList := by
  intro r
  induction r with
  | nil => intro x _; exact List.pairwise_singleton _ _
  | cons y r ih =>
    intro x h
    unfold risingS at h
    rw [Bool.and_eq_true, Bool.not_eq_true'] at h
    have h1 : ¬ y.cps.toList < x.cps.toList := of_decide_eq_false ((ltc _ _).symm.trans h.1)
    have h2 := ih y h.2
    refine List.pairwise_cons.mpr ⟨fun z hz => ?_, h2⟩
    rcases List.mem_cons.mp hz with rfl | hz
    · exact h1
    · have h3 := (List.pairwise_cons.mp h2).1 z hz
      rw [List.not_lt] at *
      exact List.le_trans h1 h3
theorem ris2 {ys : List Str} (h : sortedS ys = true) (nd : ys.Nodup) : ys.Pairwise sLt := by
  have h1 : ys.Pairwise fun a b => ¬ b.cps.toList < a.cps.toList := by
    match ys, h with
    | [], _ => exact List.Pairwise.nil
    | y :: r, h => exact ris r y h
  refine (h1.and nd).imp fun {a b} z => ?_
  rcases Decidable.em (a.cps.toList < b.cps.toList) with q | q
  · exact q
  · rw [List.not_lt] at q
    have z1 := z.1
    rw [List.not_lt] at z1
    have e := List.le_antisymm z1 q
    refine absurd ?_ z.2
    obtain ⟨a⟩ := a
    obtain ⟨b⟩ := b
    exact congrArg Str.mk (Array.toList_inj.mp e)

/-! ### a schema -/
theorem nt : ¬ (("_named" : Str) = "_tables") := by decide +kernel
def flds (d t : Addr) : List (Str × V) := putF "_tables" (.ref t) (putF "_named" (.ref d) [])
theorem flds_tables (d t : Addr) : (flds d t).lookup ("_tables" : Str) = some (.ref t) := by
  unfold flds
  rw [lookup_putF, if_pos rfl]
theorem flds_named (d t : Addr) : (flds d t).lookup ("_named" : Str) = some (.ref d) := by
  unfold flds
  rw [lookup_putF, if_neg nt, lookup_putF, if_pos rfl]
theorem flds_no (d t : Addr) {m : Str} (h1 : ¬ m = "_tables") (h2 : ¬ m = "_named") : (flds d t).lookup m = none := by
  unfold flds
  rw [lookup_putF, if_neg h1, lookup_putF, if_neg h2]
  rfl
/-- a table and where it lies -/
abbrev AT := Addr × T
def kvsOf (ts : List AT) : List (Key × V) := ts.map fun x => ((Sum.inr x.2.nm : Key), V.ref x.1)
def refsOf (ts : List AT) : List V := ts.map fun x => V.ref x.1
def namesOf (ts : List AT) : List Str := ts.map fun x => x.2.nm
theorem kvs_has {ts : List AT} {n : Str} {o : Option V} (h : valV (kvsOf ts) (Sum.inr n) = o) : o.isSome = decide (n ∈ namesOf ts) := by
  subst h
  induction ts with
  | nil => rfl
  | cons x ts ih =>
    by_cases e : x.2.nm = n
    · have h1 : valV (kvsOf (x :: ts)) (Sum.inr n) = some (V.ref x.1) := by
        show valV ((Sum.inr x.2.nm, V.ref x.1) :: kvsOf ts) (Sum.inr n) = _
        rw [e]
        exact kv_hit
      rw [h1]
      exact (decide_eq_true (by rw [← e]; exact List.mem_cons_self)).symm
    · have h1 : valV (kvsOf (x :: ts)) (Sum.inr n) = valV (kvsOf ts) (Sum.inr n) := kv_miss (sne e)
      rw [h1, ih]
      have : n ∈ namesOf (x :: ts) ↔ n ∈ namesOf ts := by
        show n ∈ x.2.nm :: namesOf ts ↔ _
        rw [List.mem_cons]
        exact ⟨fun z => z.resolve_left fun q => e q.symm, .inr⟩
      exact (decide_eq_decide.mpr this).symm
theorem kvs_get {ts : List AT} (nd : (namesOf ts).Nodup) {x : AT} (h : x ∈ ts) : valV (kvsOf ts) (Sum.inr x.2.nm) = some (V.ref x.1) := by
  induction ts with
  | nil => cases h
  | cons y ts ih =>
    have nd2 := List.nodup_cons.mp (show (y.2.nm :: namesOf ts).Nodup from nd)
    rcases List.mem_cons.mp h with rfl | h
    · exact kv_hit
    · have ne : ¬ y.2.nm = x.2.nm := fun e => nd2.1 (e ▸ List.mem_map.mpr ⟨x, h, rfl⟩)
      exact (kv_miss (sne ne)).trans (ih nd2.2 h)
theorem kvs_put {ts : List AT} {x : AT} (n : ¬ x.2.nm ∈ namesOf ts) : putK (kvsOf ts) (Sum.inr x.2.nm) (V.ref x.1) = kvsOf (ts ++ [x]) := by
  have h : valV (kvsOf ts) (Sum.inr x.2.nm) = none := by
    have := kvs_has (ts := ts) (n := x.2.nm) rfl
    rw [decide_eq_false n] at this
    exact Option.not_isSome_iff_eq_none.mp (by rw [this]; decide)
  rw [putK_new _ h]
  unfold kvsOf
  rw [List.map_append]
  rfl
theorem nd_take {ts : List AT} (nd : (namesOf ts).Nodup) {i : Nat} {x : AT} (h : ts[i]? = some x) : ¬ x.2.nm ∈ namesOf (ts.take i) := fun z => by
  have e : namesOf ts = namesOf (ts.take i) ++ namesOf (ts.drop i) := by
    unfold namesOf
    rw [← List.map_append, List.take_append_drop]
  rw [e] at nd
  have i2 : x.2.nm ∈ namesOf (ts.drop i) := List.mem_map.mpr ⟨x, List.mem_of_getElem? (i := 0) (by rw [List.getElem?_drop]; exact h), rfl⟩
  exact (List.nodup_append.mp nd).2.2 _ z _ i2 rfl
structure SchAt (C : Addr) (H : Hp) (p : Addr) (ts zs : List AT) : Prop where
  perm : zs.Perm ts
  asc : (namesOf zs).Pairwise sLt
  ok : ∀ x ∈ ts, TAt H x.1 x.2 ∧ x.2.Ok
  nd : (namesOf ts).Nodup
  len : ts.length ≤ 5
  ex : ∃ dx d t, H p = some (.ins C dx (flds d t)) ∧ H d = some (.dK (kvsOf ts)) ∧ H t = some (.tup (refsOf zs))
structure Txt (K : PySem.W.Frag) (C : Addr) : Prop where
  cl : Cls K C
  nN : NoAttr K C "_named"
  nT : NoAttr K C "_tables"
section
variable {P : Program} {w : World} {K : PySem.W.Frag} {mg : Str → Option Value} {base : Heap} {C N fN : Addr} {fdN : FuncData}
abbrev s_InvalidSchema___init__ : Stmt := inClass (top 2) 0
theorem sc_InvalidSchema___init__ : FnScope ["self", "part"] ["self", "part"] (defScope s_InvalidSchema___init__) :=
  ⟨rfl, rfl, rfl, by decide +kernel, rfl, by decide +kernel, by decide +kernel⟩
abbrev s_Schema___init__ : Stmt := inClass (top 14) 0
theorem sc_Schema___init__ : FnScope ["self", "tables", "named", "at", "table", "name"] ["self", "tables"] (defScope s_Schema___init__) :=
  ⟨rfl, rfl, rfl, by decide +kernel, rfl, by decide +kernel, by decide +kernel⟩
/-! ### InvalidSchema -/
def spBad (N : Addr) : Sp := fun vs H Q _ => ∃ (a : Addr) (x : V), vs = [.ref a, x] ∧ H a = some (exo a N none) ∧ ∀ d, H d = none → d ≠ a → Q .non (upd (upd H d (exd d [(("part" : Str), x)])) a (exo a N (some d)))
structure BadTxt (K : PySem.W.Frag) (N : Addr) : Prop where
  ox : OexC K N
  n1 : PySem.W.findIn K (.ref N) "part" = some none
theorem ok_bad (F : Fun K "__init__" "InvalidSchema.__init__" s_InvalidSchema___init__ fN fdN) (T : BadTxt K N) : FnOk P w K mg base CX0 1 fN fdN ["self", "part"] (spBad N) := by
  refine F.ok sc_InvalidSchema___init__ (fun vs H Q E h => ?_) (fun cdv A up s H vs Q E hr h => ?_)
  · obtain ⟨a, x, rfl, _⟩ := h
    rfl
  · obtain ⟨a, x, rfl, ha, k⟩ := h
    refine ⟨_, pss_one (ps_ost (pv 0) (pv 1)), ?_⟩
    exact ⟨_, rfl, _, rfl, a, N, rfl, T.ox, T.n1, .inl ⟨ha, fun d hd ne => k d hd ne⟩⟩
theorem bad_made {H : Hp} {a d : Addr} {x : V} (ha : H a = none) (hd : H d = none) (ne : d ≠ a) :
    Same H (upd (del (upd (upd (upd H a (exo a N none)) d (exd d [(("part" : Str), x)])) a (exo a N (some d))) a) d (.xd [(("part" : Str), x)])) := fun b o e => by
  have na := ne_of_none e ha
  have nd := ne_of_none e hd
  rw [upd_ne nd, del_ne na, upd_ne na, upd_ne nd, upd_ne na]
  exact e
structure Bads (P : Program) (w : World) (K : PySem.W.Frag) (mg : Str → Option Value) (base : Heap) (N : Addr) : Prop where
  nt : BadTxt K N
  gN : mg "InvalidSchema" = some (.ref N)
  ni : ∃ f fd, PySem.W.findIn K (.ref N) "__init__" = some (some (.ref f)) ∧ PySem.W.typeIn K (.ref f) = some (.type "function") ∧ FnOk P w K mg base CX0 1 f fd ["self", "part"] (spBad N) ∧ Binds K fd ["self", "part"] []
/-! ### any arguments -/
def nameD : PyData → Str
  | .tuple (.str z :: _) => z
  | _ => Str.empty
def Bad (ds : List PyData) (i : Nat) : Prop := ∃ d, ds[i]? = some d ∧ (¬ IsTab d ∨ nameD d ∈ (ds.take i).map nameD)
theorem tab_at {H : Hp} {v : V} {t : T} (h : Dq H v t.data) : ∃ a, v = .ref a ∧ TAt H a t := by
  have txts : ∀ {x : V} {zs : List Str}, Dq H x (strsD zs) → ∃ c, x = .ref c ∧ H c = some (.tup (zs.map V.str)) := fun {x zs} h => by
    unfold strsD at h
    cases h with
    | @tup c ys _ hc hy =>
      obtain ⟨ws, e1, e2, _⟩ := all_in (cs := zs) hy (strs_in fun z hz => hz)
      obtain rfl := strs_inj e2
      exact ⟨c, rfl, by rw [hc, e1]⟩
  unfold T.data at h
  cases h with
  | @tup a xs _ ha hs =>
    match xs, hs with
    | [x0, x1, x2, x3], .cons h0 (.cons h1 (.cons h2 (.cons h3 .nil))) =>
      cases h0
      obtain ⟨c, rfl, hc⟩ := txts h1
      obtain ⟨i, rfl, hi⟩ := txts h2
      obtain ⟨k, rfl, hk⟩ := txts h3
      exact ⟨a, rfl, c, i, k, ha, hc, hi, hk⟩
theorem TAt.dq {H : Hp} {a : Addr} {t : T} (h : TAt H a t) : Dq H (.ref a) t.data := by
  have txts : ∀ zs : List Str, DqAll H (zs.map V.str) (zs.map .str) := fun zs => by
    induction zs with
    | nil => exact .nil
    | cons z zs ih => exact .cons (.str z) ih
  obtain ⟨c, i, k, h1, h2, h3, h4⟩ := h
  exact .tup h1 (.cons (.str _) (.cons (.tup h2 (txts _)) (.cons (.tup h3 (txts _)) (.cons (.tup h4 (txts _)) .nil))))
theorem DqAll.snoc {H : Hp} {xs : List V} {ds : List PyData} {x : V} {d : PyData} (h : DqAll H xs ds) (k : Dq H x d) : DqAll H (xs ++ [x]) (ds ++ [d]) := h.app (.cons k .nil)
/-- the tables behind data -/
structure Tabl (H : Hp) (xs : List V) (ds : List PyData) (ts : List AT) : Prop where
  xs : xs = refsOf ts
  ds : ds = ts.map fun x => x.2.data
  ok : ∀ x ∈ ts, TAt H x.1 x.2 ∧ x.2.Ok
theorem Tabl.names {H : Hp} {xs : List V} {ds : List PyData} {ts : List AT} (t : Tabl H xs ds ts) : ds.map nameD = namesOf ts := by
  rw [t.ds, List.map_map]
  rfl
theorem Tabl.snoc {H : Hp} {xs : List V} {ds : List PyData} {ts : List AT} {x : AT} (t : Tabl H xs ds ts) (h : TAt H x.1 x.2) (ok : x.2.Ok) : Tabl H (xs ++ [.ref x.1]) (ds ++ [x.2.data]) (ts ++ [x]) := by
  refine ⟨by rw [t.xs]; unfold refsOf; rw [List.map_append]; rfl, by rw [t.ds, List.map_append]; rfl, fun y hy => ?_⟩
  rcases List.mem_append.mp hy with hy | hy
  · exact t.ok y hy
  · rw [List.mem_singleton] at hy
    subst hy
    exact ⟨h, ok⟩
theorem tabl_of {H : Hp} : ∀ {xs : List V} {ds : List PyData}, DqAll H xs ds → (∀ d ∈ ds, IsTab d) → ∃ ts : List AT, Tabl H xs ds ts
  | _, _, .nil, _ => ⟨[], rfl, rfl, fun _ z => by cases z⟩
  | _, _, .cons a b, h => by
    obtain ⟨ts, t⟩ := tabl_of b fun d hd => h d (List.mem_cons_of_mem _ hd)
    obtain ⟨t0, ok, e⟩ := h _ List.mem_cons_self
    subst e
    obtain ⟨a0, rfl, ta⟩ := tab_at a
    refine ⟨(a0, t0) :: ts, by rw [t.xs]; rfl, by rw [t.ds]; rfl, fun y hy => ?_⟩
    rcases List.mem_cons.mp hy with rfl | hy
    · exact ⟨ta, ok⟩
    · exact t.ok y hy
def spInit (C N : Addr) : Sp := fun vs H Q E => ∃ (p dx u : Addr) (xs : List V) (ds : List PyData), vs = [.ref p, .ref u] ∧ H p = some (.ins C dx []) ∧ H u = some (.tup xs) ∧ DqAll H xs ds ∧ (∀ d ∈ ds, Ok1 d) ∧ ds.length ≤ 5 ∧
  ((∀ i, ¬ Bad ds i) → ∀ ts zs H', Tabl H xs ds ts → SchAt C H' p ts zs → (∀ a o, a ≠ p → H a = some o → H' a = some o) → Q .non H') ∧
  (∀ i, Bad ds i → (∀ j, j < i → ¬ Bad ds j) → ∀ d H', Same H H' → H d = none → H' d = some (.xd [(("part" : Str), V.int i)]) → E (.ref N) (some d) H')
open Classical in
theorem ok_init {f : Addr} {fd : FuncData} (F : Fun K "__init__" "Schema.__init__" s_Schema___init__ f fd) (T : Txt K C) (B : Bads P w K mg base N) (C_is_table : CalF P w K mg base "is_table" 3 ["thing"] spTable)
    (z_enumerate : mg "enumerate" = none) (z_sorted : mg "sorted" = none) (z_tuple : mg "tuple" = none)
    (hb : ∀ (kV doc pm : Value) (an : Option Addr) (cdv ct : Value) (us rest : List Value), us.length = 1 →
      bindArgs (PySem.W.fnOf "__init__" "Schema.__init__" (defArgs s_Schema___init__) (defBody s_Schema___init__) (defScope s_Schema___init__) .none kV doc pm an cdv ct) ⟨us ++ rest, []⟩ = (newTuple rest >>= fun t => pure ((["self"] : List Str).zip us ++ [(("tables" : Str), t)]))) :
    FnR P w K mg base (L2.CX P w) 4 f (fun vs H Q E => ∃ ws rest, vs = ws ++ rest ∧ ws.length = 1 ∧ rest.length ≤ sizeLine ∧ ∀ p, H p = Option.none → spInit C N (ws ++ [V.ref p]) (upd H p (.tup rest)) Q E) := by
  obtain ⟨fn, fdn, j1, j2, FN, bN⟩ := B.ni
  obtain ⟨oc, od, kV, doc, pm, an, cdv, ct, osl, rfl, lk, hcd⟩ := F.ex
  refine StX.fn_star (ps := ["self"]) (pv := "tables") lk hcd sc_Schema___init__ StX.cxUp (fun us rest hl => hb kV doc pm an cdv ct us rest hl) (fun A up s H vs Q E hr h => ?_)
  obtain ⟨p, dx, u, xs, ds, rfl, hp, hU, hq, ho, hl, k1, k2⟩ := h
  have lx := hq.len
  have nd := sc_Schema___init__.nd
  have hu := hu_of hr
  refine ⟨_, (pss_cons (ps_set (i := 2) nd rfl (Or.inr rfl) pe_dnewK)
        (pss_cons (ps_for PassesOwn.leaving rfl (pi_enumT (by rfl) z_enumerate (pa_cons (pv 1) pa_nil)) (pg_tup rfl (pgs_cons (pg_name (i := 3) nd rfl (Or.inl rfl)) (pgs_cons (pg_name (i := 4) nd rfl (Or.inl rfl)) pgs_nil)))
          (pss_cons (ps_if (PW.pt (pw_or (pt_not (pt_val (pe_cf C_is_table (hr.mono (by decide)) (pa_cons (pv 4) pa_nil)))) (pw_or1 (pt_cmp (pc_din hu (pe_ix ix_tup (pv 4) pe_int (fun _ _ => rfl)) (pv 2))))))
            (pss_one (ps_raise rfl (takes_of rfl rfl rfl rfl) (pmk_oex B.nt.ox j1 j2 FN (hr.mono (by decide)) bN .nil pass0 (by rfl) B.gN (pa_cons (pv 3) pa_nil)))) pss_nil)
          (pss_one (ps_dput hu (pv 2) (pe_ix ix_tup (pv 4) pe_int (fun _ _ => rfl)) (pv 4) rfl))))
        (PSs.nox (pss_cons (ps_fld (pv 0) (pv 2) rfl)
        (pss_one (ps_fld (pv 0) (pe_callTy call_tuple_of (by rfl) z_tuple (by decide +kernel) (pa_cons (pe_lc (own := [("name", 5)]) (g := (gName 5)) (tt := tYes) (te := (tDGet (tVar 2) (tVar 5))) (by rfl) nd (pi_list (pe_callB (L2.call_sortedD rfl) (by rfl) z_sorted (by decide +kernel) (pa_cons (pv 2) pa_nil))) (blkOk_by (own := [("name", 5)]) (N := ["self", "tables", "named", "at", "table", "name"]) (sc := defScope s_Schema___init__) (by decide +kernel)) (fun _ _ _ _ _ => by exact (pg_name (i := 5) nd rfl (Or.inl rfl))) (fun _ _ _ _ _ => by exact pts_nil) (fun _ _ _ _ _ => by exact (pe_dget hu (pv 2) (pv 5) (fun _ _ => rfl)))) pa_nil)) rfl)))))), ?_⟩
  walk_at "rr"
  refine k_dnewK fun d hd => ?_
  walk_at "rr"
  let Pv : Nat → L2.St → Hp → Prop := fun i σ H' => ∃ o1 o2, ∃ ti : List AT, σ = [some (.ref p), some (.ref u), some (.ref d), o1, o2, none] ∧ Same H H' ∧ H' d = some (.dK (kvsOf ti)) ∧ (∀ j, j < i → ¬ Bad ds j) ∧ (namesOf ti).Nodup ∧ Tabl H (xs.take i) (ds.take i) ti
  refine ⟨u, xs, rfl, SqT.of (Same.upd hd _ _ hU), for_it (walk_enumT (xs := xs)) Pv ⟨none, none, [], rfl, Same.upd hd, upd_same, (fun j z => absurd z (Nat.not_lt_zero _)), List.nodup_nil, rfl, rfl, fun _ z => by cases z⟩ (fun i σ H' _ h => ?_) (fun i x σ H' H'' hi h y => ?_) (fun σ H' h => ?_)⟩
  · obtain ⟨_, _, _, _, s1, _⟩ := h
    exact SqT.of (s1 _ _ hU)
  · obtain ⟨o1, o2, ti, rfl, s1, hk, nb, nn, tb⟩ := h
    obtain ⟨t1, x1, x2, rfl, ht1, rfl, e1, e2⟩ := y
    have e1 : V.int i = x1 := Option.some.inj e1
    have e2 : xs[i]? = some x2 := e2
    obtain ⟨dt, hx, dq⟩ := hq.get e2
    subst e1
    refine k_gTup (SqT.of upd_same) rfl ?_
    walk_at "rr"
    refine ⟨x2, dt, rfl, (dq.same s1).same (Same.upd ht1), ho dt (List.mem_of_getElem? hx), fun H2 s2 => ?_⟩
    have s02 : Same H H2 := (s1.trans (Same.upd ht1)).trans s2
    have out : Bad ds i → tMkO N (spBad N) [] (tCons (tVar 3) tNil) [some (.ref p), some (.ref u), some (.ref d), some (.int i), some x2, none] H2 fun cls d H' => E cls d H' := fun bi => by
      refine ⟨_, rfl, (by show 1 ≤ 1000; decide), fun a ha => ?_⟩
      refine ⟨a, _, rfl, upd_same, fun b hb nb2 => ?_⟩
      have hb' : H2 b = none := by rw [upd_ne nb2] at hb; exact hb
      refine ⟨rfl, b, [(("part" : Str), V.int i)], upd_same, ?_, hb', ?_⟩
      · rw [upd_ne nb2, upd_same]
      · exact k2 i bi nb b _ (s02.trans (bad_made ha hb' nb2)) (L2.Same.free s02 hb') upd_same
    by_cases ok : IsTab dt
    · rw [decide_eq_true ok]
      have ok2 := ok
      obtain ⟨t0, ok0, rfl⟩ := ok2
      obtain ⟨a0, rfl, tx⟩ := tab_at dq
      have nmE : nameD t0.data = t0.nm := rfl
      walk_at "rr"
      have hk2 := s2 _ _ (Same.upd ht1 _ _ hk)
      have hi2 : i < ds.length := (List.getElem?_eq_some_iff.mp hx).1
      refine k_ixT (SqT.of (s2 _ _ (Same.upd ht1 _ _ (s1 _ _ tx.choose_spec.choose_spec.choose_spec.1)))) rfl ?_
      walk_at "rr"
      refine ⟨d, _, rfl, DGet.k (k := Sum.inr t0.nm) hk2, _, rfl, ?_⟩
      rw [kvs_has rfl]
      by_cases fresh : t0.nm ∈ namesOf ti
      · rw [decide_eq_true fresh]
        walk_at "rr"
        exact out ⟨_, hx, .inr (by rw [tb.names]; exact fresh)⟩
      · rw [decide_eq_false fresh]
        walk_at "rr"
        refine k_ixT (SqT.of (s2 _ _ (Same.upd ht1 _ _ (s1 _ _ tx.choose_spec.choose_spec.choose_spec.1)))) rfl ?_
        refine k_dpS hk2 (by have := congrArg List.length tb.ds; rw [List.length_map, List.length_take] at this; unfold kvsOf; rw [List.length_map]; omega) ?_
        rw [kvs_put (x := (a0, t0)) fresh]
        have tke : xs.take (i + 1) = xs.take i ++ [.ref a0] := by
          rw [List.take_add_one, e2]
          rfl
        have tkd : ds.take (i + 1) = ds.take i ++ [t0.data] := by
          rw [List.take_add_one, hx]
          rfl
        refine ⟨_, _, ti ++ [(a0, t0)], rfl, same_off s02 hd, upd_same, fun j hj => ?_, ?_, by rw [tke, tkd]; exact tb.snoc (x := (a0, t0)) tx ok0⟩
        · by_cases e : j = i
          · subst e
            rintro ⟨y, hy, b⟩
            rw [hx] at hy
            obtain rfl := Option.some.inj hy
            exact b.elim (fun z => z ok) fun z => fresh (by rw [← tb.names]; exact z)
          · exact nb j (by omega)
        · unfold namesOf at nn fresh ⊢
          rw [List.map_append]
          refine List.nodup_append.mpr ⟨nn, by simp, fun a ha b hb e => ?_⟩
          rw [List.map_singleton, List.mem_singleton] at hb
          rw [e, hb] at ha
          exact fresh ha
    · rw [decide_eq_false ok]
      walk_at "rr"
      exact out ⟨_, hx, .inl ok⟩
  · obtain ⟨o1, o2, ts, rfl, s1, hk, nb, hn, tb⟩ := h
    rw [List.take_length, lx, List.take_length] at tb
    rw [lx] at nb
    have lt : ts.length = ds.length := by rw [tb.ds, List.length_map]
    have good : ∀ i, ¬ Bad ds i := fun i b => by
      obtain ⟨y, hy, b2⟩ := b
      exact nb i (List.getElem?_eq_some_iff.mp hy).1 ⟨y, hy, b2⟩
    walk_at "rr"
    have hp1 := s1 _ _ hp
    have npd : p ≠ d := ne_of_none hp hd
    refine ⟨p, C, dx, [], rfl, hp1, T.cl, T.nN, by decide, ?_⟩
    walk_at "rr"
    walk_at "rr"
    let H3 := upd H' p (.ins C dx (putF "_named" (.ref d) []))
    have hk3 : H3 d = some (.dK (kvsOf ts)) := (upd_ne npd.symm).trans hk
    refine ⟨d, kvsOf ts, namesOf ts, rfl, .inl hk3, by unfold kvsOf namesOf; rw [List.map_map, List.map_map]; rfl, by unfold namesOf; rw [List.length_map]; omega, fun ys q hp2 hs hq => ?_⟩
    obtain ⟨zs, pz, rfl⟩ := perm_map hp2 ts rfl
    have lz := pz.length_eq
    refine ⟨_, rfl, ⟨_, SqL.of upd_same⟩, fun D hD => ?_⟩
    refine lc_same (walk_list (xs := (zs.map fun x => x.2.nm).map V.str)) (fun i => match zs[i]? with | some x => .ref x.1 | none => .non) (fun _ => true) (by rw [List.length_map, List.length_map]; omega) hD (fun H5 s5 => SqL.of (s5 _ _ upd_same)) (fun k x H5 H6 hk5 s5 y Q1 R1 q1 _ => ?_) fun H5 s5 hD1 => ?_
    · obtain ⟨rfl, y⟩ := y
      have e : ((zs.map fun x => x.2.nm).map V.str)[k]? = some x := y
      rw [List.map_map, List.getElem?_map] at e
      obtain ⟨z, hz, rfl⟩ := Option.map_eq_some_iff.mp e
      rw [hz] at q1
      walk_at "rr"
      refine ⟨rfl, k_yes ?_⟩
      walk_at "rr"
      refine k_dgS (s5 _ _ (Same.upd hq _ _ hk3)) (kvs_get hn (pz.mem_iff.mp (List.mem_of_getElem? hz))) ?_
      exact q1 rfl _ (Same.refl _)
    · rw [range_all, List.length_map, List.length_map, range_get zs _ (fun x => V.ref x.1) (fun k x e => by rw [e])] at hD1
      walk_at "rr"
      refine ⟨D, refsOf zs, rfl, .inl ⟨SqL.of hD1, fun l hl2 => ?_⟩⟩
      walk_at "rr"
      have hp3 : H3 p = some (.ins C dx (putF "_named" (.ref d) [])) := upd_same
      have g1 : ∀ a o, a ≠ p → H a = some o → (upd H5 l (.tup (refsOf zs))) a = some o := fun a o na e => Same.upd hl2 _ _ (s5 _ _ (Same.upd hq _ _ ((upd_ne na).trans (s1 _ _ e))))
      have hp5 : (upd H5 l (.tup (refsOf zs))) p = some (.ins C dx (putF "_named" (.ref d) [])) := Same.upd hl2 _ _ (s5 _ _ (Same.upd hq _ _ hp3))
      have hd5 : (upd H5 l (.tup (refsOf zs))) d = some (.dK (kvsOf ts)) := Same.upd hl2 _ _ (s5 _ _ (Same.upd hq _ _ hk3))
      refine ⟨p, C, dx, _, rfl, hp5, T.cl, T.nT, (by show 1 < 1000; decide), ?_⟩
      have npl : p ≠ l := fun z => by
        rw [← z] at hl2
        have := s5 _ _ (Same.upd hq _ _ hp3)
        rw [this] at hl2
        cases hl2
      have hl5 : (upd H5 l (.tup (refsOf zs))) l = some (.tup (refsOf zs)) := upd_same
      generalize upd H5 l (.tup (refsOf zs)) = H6 at g1 hp5 hd5 hl5 ⊢
      have nat : ∀ {a : Addr} {o : HO}, H a = some o → (∀ C dx fs, o ≠ .ins C dx fs) → a ≠ p := fun e n z => by
        rw [z, hp] at e
        exact n _ _ _ (Option.some.inj e).symm
      refine k1 good ts zs _ tb ⟨pz, ris2 hs (by
          have : (zs.map fun x => x.2.nm).Perm (namesOf ts) := pz.map _
          exact this.nodup_iff.mpr hn), fun x hx => ⟨?_, (tb.ok x hx).2⟩, hn, by omega, dx, d, l, upd_same, (upd_ne npd.symm).trans hd5, (upd_ne npl.symm).trans hl5⟩ fun a o na e => (upd_ne na).trans (g1 a o na e)
      obtain ⟨c, i, kk, h1, h2, h3, h4⟩ := (tb.ok x hx).1
      have t : ∀ {a : Addr} {xs : List V}, H a = some (.tup xs) → (upd H6 p (.ins C dx (flds d l))) a = some (.tup xs) := fun {a xs} e => (upd_ne (nat e fun _ _ _ z => by cases z)).trans (g1 _ _ (nat e fun _ _ _ z => by cases z) e)
      exact ⟨c, i, kk, t h1, t h2, t h3, t h4⟩
end
end K01

set_option Elab.async false
set_option maxRecDepth 100000
set_option maxHeartbeats 4000000
set_option linter.unusedVariables false
namespace K01
open PySem PySem.Spec PyProof.Rows L2 Own
-- steps
local macro_rules | `(tactic| walk_at "lk") => `(tactic| first
  | assumption | exact upd_same
  | ((with_reducible refine' lk_new ?e (by assumption)); (case e => walk_at "lk"))
  | ((with_reducible refine' lk_ext (by assumption) ?e); (case e => walk_at "lk"))
  | ((with_reducible refine' lk_same (by assumption) ?e); (case e => walk_at "lk")))
local macro_rules | `(tactic| walk_at "sq") => `(tactic| first | assumption | exact SqL.of (by walk_at "lk") | exact SqT.of (by walk_at "lk"))
local macro_rules | `(tactic| walk_at "r1") => `(tactic| first
  | with_reducible refine k_seq ?_ | with_reducible refine k_asg ?_ | with_reducible refine k_ret ?_ | with_reducible refine k_drop ?_ | with_reducible refine k_next ?_ | with_reducible refine k_ifS ?_
  | ((with_reducible refine' k_var ?e ?_); (case e => exact rfl)) | with_reducible refine k_c ?_ | with_reducible refine k_op ?_ | with_reducible refine k_un ?_ | with_reducible refine k_test ?_ | with_reducible refine k_B ?_
  | with_reducible refine k_and ?_ | with_reducible refine k_or ?_ | with_reducible refine k_not ?_ | with_reducible refine k_andV ?_ | with_reducible refine k_orV ?_ | with_reducible refine k_notV ?_ | with_reducible refine k_if ?_
  | with_reducible refine k_nil ?_ | with_reducible refine k_cons ?_ | with_reducible refine k_tup ?_ | with_reducible refine k_lst ?_ | with_reducible refine k_call ?_ | with_reducible refine k_cb ?_ | with_reducible refine k_ck ?_
  | with_reducible refine k_par ?_ | with_reducible refine k_par1 ?_ | with_reducible refine k_tr ?_ | with_reducible refine k_rI0 ?_ | with_reducible refine k_rU ?_
  | with_reducible refine k_gN ?_ | with_reducible refine k_gS ?_ | with_reducible refine k_gNil ?_ | with_reducible refine k_gCons ?_ | with_reducible refine k_bm0 ?_ | with_reducible refine k_bm ?_
  | with_reducible refine k_for ?_ | with_reducible refine k_iL ?_ | with_reducible refine k_iT ?_ | with_reducible refine k_iR1 ?_ | ((with_reducible refine k_iR1i ?e ?_); (case e => first | decide | exact ⟨by omega, by omega⟩))
  | with_reducible refine k_max ?_ | with_reducible refine k_isB ?_ | with_reducible refine k_sl ?_ | with_reducible refine k_noP ?_ | with_reducible refine k_part ?_ | with_reducible refine k_partI ?_ | with_reducible refine k_revL ?_
  | ((with_reducible refine' k_ixqT ?e ?f ?_); (case e => walk_at "sq"); (case f => first | exact rfl | exact atI_head))
  | ((with_reducible refine' k_ixqL ?e ?f ?_); (case e => walk_at "sq"); (case f => first | exact rfl | exact atI_head))
  | ((with_reducible refine' k_lenL ?e ?_); (case e => walk_at "sq"))
  | ((with_reducible refine' k_lenT ?e ?_); (case e => walk_at "sq"))
  | ((with_reducible refine' k_ixL ?e ?f ?_); (case e => walk_at "sq"); (case f => first | exact rfl | exact atI_head))
  | ((with_reducible refine' k_ixT ?e ?f ?_); (case e => walk_at "sq"); (case f => first | exact rfl | exact atI_head))
  | ((with_reducible refine k_eq ?e ?_); (case e => exact rfl)) | ((with_reducible refine k_ne ?e ?_); (case e => exact rfl))
  | ((with_reducible refine k_rI ?e ?_); (case e => first | assumption | omega | decide | exact ⟨by omega, by omega⟩ | exact .inl ⟨by omega, by omega⟩ | exact .inr ⟨by omega, by omega⟩)))
local macro_rules | `(tactic| walk_at "rd") => `(tactic| repeat walk_at "r1")
local macro_rules | `(tactic| walk_at "r2") => `(tactic| first
  | walk_at "r1"
  | with_reducible refine k_ifTt ?_ | with_reducible refine k_ifFf ?_ | with_reducible refine k_ifNt ?_ | with_reducible refine k_ifNf ?_
  | with_reducible refine k_makeR ?_ | with_reducible refine k_tJ ?_ | with_reducible refine k_tJc ?_ | with_reducible refine k_tJn ?_ | with_reducible refine k_fmt ?_ | with_reducible refine k_lc ?_ | with_reducible refine k_din ?_ | with_reducible refine k_fld ?_ | with_reducible refine k_dget ?_
  | with_reducible refine k_dput ?_
  | with_reducible refine k_isNv ?_
  | with_reducible refine k_notNv ?_
  | with_reducible refine k_str ?_
  | with_reducible refine k_enumT ?_
  | with_reducible refine k_zipA ?_
  | with_reducible refine k_chain ?_
  | ((with_reducible refine' k_dgS ?e dkv_cells ?_); (case e => walk_at "lk"))
  | ((with_reducible refine' k_dgS ?e dkv_mixed ?_); (case e => walk_at "lk"))
  | ((with_reducible refine' k_dgS ?e dkv_turn ?_); (case e => walk_at "lk")))
local macro_rules | `(tactic| walk_at "rr") => `(tactic| repeat walk_at "r2")
-- steps end
/-! ### tables as data -/
instance : DecidableEq T := fun a b => by
  cases a
  cases b
  rw [T.mk.injEq]
  exact inferInstance
def tabsD (l : List T) : PyData := .tuple (l.map T.data)
theorem eqv_strs : ∀ zs ys : List Str, PyData.eqvAll (zs.map .str) (ys.map .str) = decide (zs = ys)
  | [], [] => by simp [PyData.eqvAll]
  | [], y :: ys => by simp [PyData.eqvAll]
  | z :: zs, [] => by simp [PyData.eqvAll]
  | z :: zs, y :: ys => by
    have ih := eqv_strs zs ys
    simp only [List.map_cons, PyData.eqvAll, ih, PyData.eqv]
    by_cases h : z = y <;> simp [h]
theorem eqv_strsD (zs ys : List Str) : PyData.eqv (strsD zs) (strsD ys) = decide (zs = ys) := by
  unfold strsD
  simp only [PyData.eqv]
  exact eqv_strs zs ys
theorem eqv_T (a b : T) : PyData.eqv a.data b.data = decide (a = b) := by
  obtain ⟨a1, a2, a3, a4⟩ := a
  obtain ⟨b1, b2, b3, b4⟩ := b
  unfold T.data
  simp only [PyData.eqv, PyData.eqvAll, eqv_strsD]
  by_cases h1 : a1 = b1 <;> by_cases h2 : a2 = b2 <;> by_cases h3 : a3 = b3 <;> by_cases h4 : a4 = b4 <;> simp [h1, h2, h3, h4]
theorem eqv_Ts : ∀ l m : List T, PyData.eqvAll (l.map T.data) (m.map T.data) = decide (l = m)
  | [], [] => by simp [PyData.eqvAll]
  | [], y :: ys => by simp [PyData.eqvAll]
  | z :: zs, [] => by simp [PyData.eqvAll]
  | z :: zs, y :: ys => by
    have ih := eqv_Ts zs ys
    simp only [List.map_cons, PyData.eqvAll, ih, eqv_T]
    by_cases h : z = y <;> simp [h]
theorem eqv_tabs (l m : List T) : PyData.eqv (tabsD l) (tabsD m) = decide (l = m) := by
  unfold tabsD
  simp only [PyData.eqv]
  exact eqv_Ts l m
theorem name_ok {z : Str} (h : isNameB z = true) : PyData.strOk z = true := by
  unfold PyData.strOk
  unfold isNameB at h
  rw [Bool.and_eq_true, Bool.and_eq_true] at h
  rw [← Array.all_toList]
  refine List.all_eq_true.mpr fun c hc => decide_eq_true ?_
  have := List.all_eq_true.mp h.2 c hc
  unfold isLet at this
  simp at this
  omega
theorem lay_strs : ∀ zs : List Str, (∀ z ∈ zs, isNameB z = true) → PyData.canLayAll0 (zs.map .str) = true
  | [], _ => by simp [PyData.canLayAll0]
  | z :: zs, h => by
    simp [PyData.canLayAll0, PyData.canLay0, lay_strs zs fun y hy => h y (List.mem_cons_of_mem _ hy)]
    exact name_ok (h z List.mem_cons_self)
theorem dep_strs : ∀ zs : List Str, PyData.depthAll (zs.map .str) ≤ 1
  | [] => by simp [PyData.depthAll]
  | z :: zs => by
    have := dep_strs zs
    simp [PyData.depthAll, PyData.depth]
    omega
theorem lay_T {t : T} (h : t.Ok) : t.data.canLay0 = true := by
  unfold T.data strsD
  simp [PyData.canLay0, PyData.canLayAll0, lay_strs t.cs h.cn, lay_strs t.is fun z hz => h.cn z (h.ii z hz), lay_strs t.ks fun z hz => h.cn z (h.ki z hz)]
  exact name_ok h.nm
theorem dep_T (t : T) : t.data.depth ≤ 4 := by
  have h1 := dep_strs t.cs
  have h2 := dep_strs t.is
  have h3 := dep_strs t.ks
  unfold T.data strsD
  simp [PyData.depth, PyData.depthAll]
  omega
theorem lay_Ts : ∀ l : List T, (∀ t ∈ l, t.Ok) → PyData.canLayAll0 (l.map T.data) = true
  | [], _ => by simp [PyData.canLayAll0]
  | z :: zs, h => by simp [PyData.canLayAll0, lay_T (h z List.mem_cons_self), lay_Ts zs fun y hy => h y (List.mem_cons_of_mem _ hy)]
theorem dep_Ts : ∀ l : List T, PyData.depthAll (l.map T.data) ≤ 4
  | [] => by simp [PyData.depthAll]
  | z :: zs => by
    have := dep_Ts zs
    have := dep_T z
    simp [PyData.depthAll]
    omega
theorem shaped_tabs {l : List T} (h : ∀ t ∈ l, t.Ok) : SeqAt.shaped (tabsD l) = true := by
  have := dep_Ts l
  unfold SeqAt.shaped tabsD
  simp [PyData.canLay0, lay_Ts l h, PyData.depth]
  omega
section
variable {K : PySem.W.Frag} {H : Hp}
theorem dpAll_strs : ∀ zs : List Str, DpAll K H (zs.map V.str) (zs.map .str)
  | [] => .nil
  | z :: zs => .cons (.str z) (dpAll_strs zs)
theorem TAt.dp {a : Addr} {t : T} (h : TAt H a t) : Dp K H (.ref a) t.data := by
  obtain ⟨c, i, k, h1, h2, h3, h4⟩ := h
  exact .tup (SqT.of h1) (.cons (.str _) (.cons (.tup (SqT.of h2) (dpAll_strs _)) (.cons (.tup (SqT.of h3) (dpAll_strs _)) (.cons (.tup (SqT.of h4) (dpAll_strs _)) .nil))))
theorem dpAll_T : ∀ {l : List AT}, (∀ x ∈ l, TAt H x.1 x.2) → DpAll K H (refsOf l) ((l.map (·.2)).map T.data)
  | [], _ => .nil
  | x :: l, h => .cons (h x List.mem_cons_self).dp (dpAll_T fun y hy => h y (List.mem_cons_of_mem _ hy))
theorem dp_tabs {a : Addr} {l : List AT} (ha : H a = some (.tup (refsOf l))) (h : ∀ x ∈ l, TAt H x.1 x.2) : Dp K H (.ref a) (tabsD (l.map (·.2))) := .tup (SqT.of ha) (dpAll_T h)
end
theorem name_len {z : Str} (h : isNameB z = true) : z.length ≤ 8 := by
  unfold isNameB at h
  simp only [Bool.and_eq_true, decide_eq_true_eq] at h
  exact h.1.2
section
variable {P : Program} {w : World} {K : PySem.W.Frag} {mg : Str → Option Value} {base : Heap} {C : Addr}
abbrev s_Schema_tables : Stmt := inClass (top 14) 1
theorem sc_Schema_tables : FnScope ["self"] ["self"] (defScope s_Schema_tables) :=
  ⟨rfl, rfl, rfl, by decide +kernel, rfl, by decide +kernel, by decide +kernel⟩
def spTables (C : Addr) : Sp := fun vs H Q _ => ∃ (p : Addr) (ts zs : List AT), vs = [.ref p] ∧ SchAt C H p ts zs ∧ ∀ t, H t = some (.tup (refsOf zs)) → Q (.ref t) H
theorem ok_tables {f : Addr} {fd : FuncData} (F : Fun K "tables" "Schema.tables" s_Schema_tables f fd) (T : Txt K C) : FnOk P w K mg base CX0 1 f fd ["self"] (spTables C) := by
  refine F.ok sc_Schema_tables (fun vs H Q E h => ?_) (fun cdv A up s H vs Q E hr h => ?_)
  · obtain ⟨p, ts, zs, rfl, _⟩ := h
    rfl
  · obtain ⟨p, ts, zs, rfl, S, k⟩ := h
    obtain ⟨dx, d, t, h1, h2, h3⟩ := S.ex
    refine ⟨_, (pss_one (ps_ret (pe_fld (pv 0) rfl))), ?_⟩
    walk_at "rr"
    exact ⟨_, rfl, p, C, dx, _, _, rfl, h1, T.cl, T.nT, flds_tables _ _, k t h3⟩
end
/-! ### sorted tables -/
theorem le_tot : ∀ {β : Type} (k : β → PyData), PySem.W.TotalLe (PySem.W.dataLe false k) := fun k => by
  rw [PySem.W.dataLe_eq]
  refine ⟨fun a b c h1 h2 => ?_, fun a b => ?_⟩
  · have a1 : PySem.W.dataLt (k b) (k a) = false := by simpa using h1
    have a2 : PySem.W.dataLt (k c) (k b) = false := by simpa using h2
    show (!PySem.W.dataLt (k c) (k a)) = true
    cases h : PySem.W.dataLt (k c) (k a) with
    | false => rfl
    | true =>
      rcases lex_negTrans (O := itemOrd) _ (PySem.W.keyToks (k b)) _ h with z | z
      · rw [show PySem.W.dataLt (k c) (k b) = true from z] at a2
        cases a2
      · rw [show PySem.W.dataLt (k b) (k a) = true from z] at a1
        cases a1
  · show (!PySem.W.dataLt (k b) (k a)) = true ∨ (!PySem.W.dataLt (k a) (k b)) = true
    cases h : PySem.W.dataLt (k b) (k a) with
    | false => exact .inl rfl
    | true =>
      refine .inr ?_
      cases h2 : PySem.W.dataLt (k a) (k b) with
      | false => rfl
      | true =>
        have z : PySem.W.dataLt (k a) (k a) = true := lex_trans (O := itemOrd) _ _ _ h2 h
        rw [show PySem.W.dataLt (k a) (k a) = false from lex_irrefl _] at z
        cases z
def zT (x : AT) : V × PyData := (V.ref x.1, x.2.data)
theorem alike_strs : ∀ zs ys : List Str, PySem.W.alikeAll (zs.map .str) (ys.map .str) = true
  | [], ys => by cases ys <;> rfl
  | _ :: _, [] => rfl
  | z :: zs, y :: ys => by
    show (true && PySem.W.alikeAll (zs.map .str) (ys.map .str)) = true
    rw [alike_strs zs ys]
    rfl
theorem alike_T (a b : T) : PySem.W.alike a.data b.data = true := by
  unfold T.data strsD
  simp only [PySem.W.alike, PySem.W.alikeAll, alike_strs, Bool.and_self]
theorem lt_T {a b : T} (h : a.nm ≠ b.nm) : PySem.W.dataLt a.data b.data = decide (sLt a.nm b.nm) := by
  unfold T.data
  rw [PySem.W.dataLt_tuple, PySem.W.dataLt_all_no rfl (by simpa [PyData.eqv] using h), PySem.W.dataLt_str]
theorem slt_total {a b : Str} (h : a ≠ b) (h2 : ¬ sLt a b) : sLt b a := by
  rcases Decidable.em (sLt b a) with q | q
  · exact q
  · have e := List.le_antisymm (List.not_lt.mp q) (List.not_lt.mp h2)
    refine absurd ?_ h
    obtain ⟨a⟩ := a
    obtain ⟨b⟩ := b
    exact congrArg Str.mk (Array.toList_inj.mp e)
theorem sort_tabs {ts : List AT} (nd : (namesOf ts).Nodup) : ∃ zs : List AT, zs.Perm ts ∧ (namesOf zs).Pairwise sLt ∧ ((ts.map zT).mergeSort (PySem.W.dataLe false fun b : V × PyData => b.2)).map (·.1) = refsOf zs := by
  have e : (ts.map zT).mergeSort (PySem.W.dataLe false fun b : V × PyData => b.2) = (ts.mergeSort (PySem.W.dataLe false fun x : AT => x.2.data)).map zT :=
    (List.map_mergeSort (f := zT) (r := PySem.W.dataLe false fun x : AT => x.2.data) (s := PySem.W.dataLe false fun b : V × PyData => b.2) fun _ _ _ _ => rfl).symm
  have pm := List.mergeSort_perm ts (PySem.W.dataLe false fun x : AT => x.2.data)
  have pw := PySem.W.sort_pairwise (le_tot fun x : AT => x.2.data) ts
  rw [e]
  generalize ts.mergeSort (PySem.W.dataLe false fun x : AT => x.2.data) = zs at pm pw
  have nd2 : (namesOf zs).Nodup := (pm.map fun x : AT => x.2.nm).nodup_iff.mpr nd
  refine ⟨zs, pm, ?_, by rw [List.map_map]; rfl⟩
  unfold namesOf at nd2 ⊢
  rw [List.pairwise_map]
  refine (pw.and (List.pairwise_map.mp nd2)).imp fun {a b} h => ?_
  obtain ⟨h1, h2⟩ := h
  rcases Decidable.em (sLt a.2.nm b.2.nm) with q | q
  · exact q
  · have := slt_total h2 q
    have z : PySem.W.dataLt b.2.data a.2.data = false := by simpa [PySem.W.dataLe_eq] using h1
    rw [lt_T (fun z => h2 z.symm), decide_eq_true this] at z
    cases z
section
variable {K : PySem.W.Frag}
theorem sorted_of {ts : List AT} {H : Hp} {Q : VK} {l : Addr} (hl : H l = some (.lst (refsOf ts))) (ht : ∀ x ∈ ts, TAt H x.1 x.2) (nd : (namesOf ts).Nodup) (lt : ts.length ≤ 1000)
    (k : ∀ (zs : List AT) p, H p = none → zs.Perm ts → (namesOf zs).Pairwise sLt → Q (.ref p) (upd H p (.lst (refsOf zs)))) : rSortedA K [.ref l] H Q := by
  obtain ⟨zs, pm, az, e⟩ := sort_tabs nd
  refine ⟨l, ts.map zT, rfl, .inl (SqL.of (by rw [hl, List.map_map]; rfl)), fun b hb => ?_, ?_, .inl fun d hd => ?_, by rw [List.length_map]; exact lt, fun p hp => ?_⟩
  · obtain ⟨x, hx, rfl⟩ := List.mem_map.mp hb
    exact ⟨(ht x hx).dp, Nat.le_trans (dep_T x.2) (by decide)⟩
  · intro d hd d' hd'
    rw [List.map_map] at hd hd'
    obtain ⟨x, _, rfl⟩ := List.mem_map.mp hd
    obtain ⟨y, _, rfl⟩ := List.mem_map.mp hd'
    exact alike_T x.2 y.2
  · rw [List.map_map] at hd
    obtain ⟨x, _, rfl⟩ := List.mem_map.mp hd
    exact ⟨_, _, rfl⟩
  · rw [e]
    exact k zs p hp pm az
end
theorem slt_asymm {a b : Str} (h : sLt a b) (h2 : sLt b a) : False := List.lt_irrefl _ (List.lt_trans h h2)
theorem sort_eq : ∀ {l1 l2 : List T}, l1.Perm l2 → (l1.map (·.nm)).Pairwise sLt → (l2.map (·.nm)).Pairwise sLt → l1 = l2
  | [], l2, p, _, _ => (List.Perm.nil_eq p)
  | a :: l1, l2, p, h1, h2 => by
    match l2, p, h2 with
    | [], p, _ => exact absurd p.length_eq (by simp)
    | b :: l2, p, h2 =>
      rw [List.map_cons] at h1 h2
      have g1 := List.pairwise_cons.mp h1
      have g2 := List.pairwise_cons.mp h2
      by_cases e : a = b
      · subst e
        rw [sort_eq p.cons_inv g1.2 g2.2]
      · have m1 : a ∈ l2 := (List.mem_cons.mp (p.mem_iff.mp List.mem_cons_self)).resolve_left e
        have m2 : b ∈ l1 := (List.mem_cons.mp (p.mem_iff.mpr List.mem_cons_self)).resolve_left fun z => e z.symm
        exact (slt_asymm (g1.1 _ (List.mem_map.mpr ⟨b, m2, rfl⟩)) (g2.1 _ (List.mem_map.mpr ⟨a, m1, rfl⟩))).elim
theorem SchAt.ascT {C : Addr} {H : Hp} {p : Addr} {ts zs : List AT} (S : SchAt C H p ts zs) : ((zs.map (·.2)).map (·.nm)).Pairwise sLt := by
  have := S.asc
  unfold namesOf at this
  rw [List.map_map]
  exact this
theorem sch_same {C : Addr} {H H' : Hp} {p q : Addr} {ts zs ts' zs' : List AT} (S : SchAt C H p ts zs) (S' : SchAt C H' q ts' zs') (pm : ts.Perm ts') : zs.map (·.2) = zs'.map (·.2) :=
  sort_eq (((S.perm.trans pm).trans S'.perm.symm).map _) S.ascT S'.ascT
end K01

set_option Elab.async false
set_option maxRecDepth 100000
set_option maxHeartbeats 4000000
set_option linter.unusedVariables false
namespace K01
open PySem PySem.Spec PyProof.Rows L2 Own
-- steps
local macro_rules | `(tactic| walk_at "lk") => `(tactic| first
  | assumption | exact upd_same
  | ((with_reducible refine' lk_new ?e (by assumption)); (case e => walk_at "lk"))
  | ((with_reducible refine' lk_ext (by assumption) ?e); (case e => walk_at "lk"))
  | ((with_reducible refine' lk_same (by assumption) ?e); (case e => walk_at "lk")))
local macro_rules | `(tactic| walk_at "sq") => `(tactic| first | assumption | exact SqL.of (by walk_at "lk") | exact SqT.of (by walk_at "lk"))
local macro_rules | `(tactic| walk_at "r1") => `(tactic| first
  | with_reducible refine k_seq ?_ | with_reducible refine k_asg ?_ | with_reducible refine k_ret ?_ | with_reducible refine k_drop ?_ | with_reducible refine k_next ?_ | with_reducible refine k_ifS ?_
  | ((with_reducible refine' k_var ?e ?_); (case e => exact rfl)) | with_reducible refine k_c ?_ | with_reducible refine k_op ?_ | with_reducible refine k_un ?_ | with_reducible refine k_test ?_ | with_reducible refine k_B ?_
  | with_reducible refine k_and ?_ | with_reducible refine k_or ?_ | with_reducible refine k_not ?_ | with_reducible refine k_andV ?_ | with_reducible refine k_orV ?_ | with_reducible refine k_notV ?_ | with_reducible refine k_if ?_
  | with_reducible refine k_nil ?_ | with_reducible refine k_cons ?_ | with_reducible refine k_tup ?_ | with_reducible refine k_lst ?_ | with_reducible refine k_call ?_ | with_reducible refine k_cb ?_ | with_reducible refine k_ck ?_
  | with_reducible refine k_par ?_ | with_reducible refine k_par1 ?_ | with_reducible refine k_tr ?_ | with_reducible refine k_rI0 ?_ | with_reducible refine k_rU ?_
  | with_reducible refine k_gN ?_ | with_reducible refine k_gS ?_ | with_reducible refine k_gNil ?_ | with_reducible refine k_gCons ?_ | with_reducible refine k_bm0 ?_ | with_reducible refine k_bm ?_
  | with_reducible refine k_for ?_ | with_reducible refine k_iL ?_ | with_reducible refine k_iT ?_ | with_reducible refine k_iR1 ?_ | ((with_reducible refine k_iR1i ?e ?_); (case e => first | decide | exact ⟨by omega, by omega⟩))
  | with_reducible refine k_max ?_ | with_reducible refine k_isB ?_ | with_reducible refine k_sl ?_ | with_reducible refine k_noP ?_ | with_reducible refine k_part ?_ | with_reducible refine k_partI ?_ | with_reducible refine k_revL ?_
  | ((with_reducible refine' k_ixqT ?e ?f ?_); (case e => walk_at "sq"); (case f => first | exact rfl | exact atI_head))
  | ((with_reducible refine' k_ixqL ?e ?f ?_); (case e => walk_at "sq"); (case f => first | exact rfl | exact atI_head))
  | ((with_reducible refine' k_lenL ?e ?_); (case e => walk_at "sq"))
  | ((with_reducible refine' k_lenT ?e ?_); (case e => walk_at "sq"))
  | ((with_reducible refine' k_ixL ?e ?f ?_); (case e => walk_at "sq"); (case f => first | exact rfl | exact atI_head))
  | ((with_reducible refine' k_ixT ?e ?f ?_); (case e => walk_at "sq"); (case f => first | exact rfl | exact atI_head))
  | ((with_reducible refine k_eq ?e ?_); (case e => exact rfl)) | ((with_reducible refine k_ne ?e ?_); (case e => exact rfl))
  | ((with_reducible refine k_rI ?e ?_); (case e => first | assumption | omega | decide | exact ⟨by omega, by omega⟩ | exact .inl ⟨by omega, by omega⟩ | exact .inr ⟨by omega, by omega⟩)))
local macro_rules | `(tactic| walk_at "rd") => `(tactic| repeat walk_at "r1")
local macro_rules | `(tactic| walk_at "r2") => `(tactic| first
  | walk_at "r1"
  | with_reducible refine k_ifTt ?_ | with_reducible refine k_ifFf ?_ | with_reducible refine k_ifNt ?_ | with_reducible refine k_ifNf ?_
  | with_reducible refine k_makeR ?_ | with_reducible refine k_tJ ?_ | with_reducible refine k_tJc ?_ | with_reducible refine k_tJn ?_ | with_reducible refine k_fmt ?_ | with_reducible refine k_lc ?_ | with_reducible refine k_din ?_ | with_reducible refine k_fld ?_ | with_reducible refine k_dget ?_
  | with_reducible refine k_dput ?_
  | with_reducible refine k_isNv ?_
  | with_reducible refine k_notNv ?_
  | with_reducible refine k_str ?_
  | with_reducible refine k_enumT ?_
  | with_reducible refine k_zipA ?_
  | with_reducible refine k_chain ?_
  | ((with_reducible refine' k_dgS ?e dkv_cells ?_); (case e => walk_at "lk"))
  | ((with_reducible refine' k_dgS ?e dkv_mixed ?_); (case e => walk_at "lk"))
  | ((with_reducible refine' k_dgS ?e dkv_turn ?_); (case e => walk_at "lk")))
local macro_rules | `(tactic| walk_at "rr") => `(tactic| repeat walk_at "r2")
-- steps end
def turnedOf (f : Nat) : Str := cutS letters (some (f : Int)) none ++ cutS letters none (some (f : Int))
def signsOf (f : Nat) : List Str := (cutS (turnedOf f) none (some 8)).cps.toList.map fun c => ⟨#[c]⟩
def mulsOf (f : Nat) : List Str := (List.range 8).map fun (k : Nat) => Txt.mul ⟨#[(turnedOf f).cps.toList.getD (f % 3) 0]⟩ (1 + (k : Int))
def putsOf (f a : Nat) : List Str := (signsOf f).map fun s => (cutS (turnedOf f) (some 8) (some (8 + (a : Int))) ++ s) ++ cutS (turnedOf f) (some (9 + (a : Int))) (some 16)
def words : List Str := ["table", "index", "key", "next", "row", "from", "set", "none"]
def foundOf (way f a : Nat) : List Str := if way = 1 then mulsOf f else if way = 2 then putsOf f a else if way = 3 then words else signsOf f
def nodupB : List Str → Bool
  | [] => true
  | z :: zs => !(zs.any fun y => decide (y = z)) && nodupB zs
theorem nodupB_ok : ∀ {zs : List Str}, nodupB zs = true → zs.Nodup
  | [], _ => List.nodup_nil
  | z :: zs, h => by
    unfold nodupB at h
    rw [Bool.and_eq_true] at h
    refine List.nodup_cons.mpr ⟨fun m => ?_, nodupB_ok h.2⟩
    have h1 := h.1
    rw [Bool.not_eq_true', List.any_eq_false] at h1
    exact h1 z m (decide_eq_true rfl)
def eightB (zs : List Str) : Bool := decide (zs.length = 8) && zs.all isNameB && nodupB zs
theorem eight_m : ∀ f < 26, eightB (mulsOf f) = true := by decide +kernel
theorem eight_p : ∀ f < 26, ∀ a < 7, eightB (putsOf f a) = true := by decide +kernel
theorem eight_w : eightB words = true := by decide +kernel
theorem eight_s : ∀ f < 26, eightB (signsOf f) = true := by decide +kernel
theorem eight_all {way f a : Nat} (h1 : way < 4) (h2 : f < 26) (h3 : a < 7) : eightB (foundOf way f a) = true := by
  unfold foundOf
  split
  · exact eight_m f h2
  · split
    · exact eight_p f h2 a h3
    · split
      · exact eight_w
      · exact eight_s f h2
/-- eight names to take from -/
structure Eight (zs : List Str) : Prop where
  len : zs.length = 8
  nm : ∀ z ∈ zs, isNameB z = true
  nd : zs.Nodup
theorem turn_len : ∀ f < 26, (cutS letters (some ((f : Nat) : Int)) none).length + (cutS letters none (some ((f : Nat) : Int))).length ≤ 100 ∧ (turnedOf f).length = 26 ∧ (signsOf f).length = 8 := by decide +kernel
theorem eight_of {way f a : Nat} (h1 : way < 4) (h2 : f < 26) (h3 : a < 7) : Eight (foundOf way f a) := by
  have h := eight_all h1 h2 h3
  unfold eightB at h
  rw [Bool.and_eq_true, Bool.and_eq_true] at h
  exact ⟨of_decide_eq_true h.1.1, List.all_eq_true.mp h.1.2, nodupB_ok h.2⟩
end K01

set_option Elab.async false
set_option maxRecDepth 100000
set_option maxHeartbeats 4000000
set_option linter.unusedVariables false
namespace K01
open PySem PySem.Spec PyProof.Rows L2 Own
-- steps
local macro_rules | `(tactic| walk_at "lk") => `(tactic| first
  | assumption | exact upd_same
  | ((with_reducible refine' lk_new ?e (by assumption)); (case e => walk_at "lk"))
  | ((with_reducible refine' lk_ext (by assumption) ?e); (case e => walk_at "lk"))
  | ((with_reducible refine' lk_same (by assumption) ?e); (case e => walk_at "lk")))
local macro_rules | `(tactic| walk_at "sq") => `(tactic| first | assumption | exact SqL.of (by walk_at "lk") | exact SqT.of (by walk_at "lk"))
local macro_rules | `(tactic| walk_at "r1") => `(tactic| first
  | with_reducible refine k_seq ?_ | with_reducible refine k_asg ?_ | with_reducible refine k_ret ?_ | with_reducible refine k_drop ?_ | with_reducible refine k_next ?_ | with_reducible refine k_ifS ?_
  | ((with_reducible refine' k_var ?e ?_); (case e => exact rfl)) | with_reducible refine k_c ?_ | with_reducible refine k_op ?_ | with_reducible refine k_un ?_ | with_reducible refine k_test ?_ | with_reducible refine k_B ?_
  | with_reducible refine k_and ?_ | with_reducible refine k_or ?_ | with_reducible refine k_not ?_ | with_reducible refine k_andV ?_ | with_reducible refine k_orV ?_ | with_reducible refine k_notV ?_ | with_reducible refine k_if ?_
  | with_reducible refine k_nil ?_ | with_reducible refine k_cons ?_ | with_reducible refine k_tup ?_ | with_reducible refine k_lst ?_ | with_reducible refine k_call ?_ | with_reducible refine k_cb ?_ | with_reducible refine k_ck ?_
  | with_reducible refine k_par ?_ | with_reducible refine k_par1 ?_ | with_reducible refine k_tr ?_ | with_reducible refine k_rI0 ?_ | with_reducible refine k_rU ?_
  | with_reducible refine k_gN ?_ | with_reducible refine k_gS ?_ | with_reducible refine k_gNil ?_ | with_reducible refine k_gCons ?_ | with_reducible refine k_bm0 ?_ | with_reducible refine k_bm ?_
  | with_reducible refine k_for ?_ | with_reducible refine k_iL ?_ | with_reducible refine k_iT ?_ | with_reducible refine k_iR1 ?_ | ((with_reducible refine k_iR1i ?e ?_); (case e => first | decide | exact ⟨by omega, by omega⟩))
  | with_reducible refine k_max ?_ | with_reducible refine k_isB ?_ | with_reducible refine k_sl ?_ | with_reducible refine k_noP ?_ | with_reducible refine k_part ?_ | with_reducible refine k_partI ?_ | with_reducible refine k_revL ?_
  | ((with_reducible refine' k_ixqT ?e ?f ?_); (case e => walk_at "sq"); (case f => first | exact rfl | exact atI_head))
  | ((with_reducible refine' k_ixqL ?e ?f ?_); (case e => walk_at "sq"); (case f => first | exact rfl | exact atI_head))
  | ((with_reducible refine' k_lenL ?e ?_); (case e => walk_at "sq"))
  | ((with_reducible refine' k_lenT ?e ?_); (case e => walk_at "sq"))
  | ((with_reducible refine' k_ixL ?e ?f ?_); (case e => walk_at "sq"); (case f => first | exact rfl | exact atI_head))
  | ((with_reducible refine' k_ixT ?e ?f ?_); (case e => walk_at "sq"); (case f => first | exact rfl | exact atI_head))
  | ((with_reducible refine k_eq ?e ?_); (case e => exact rfl)) | ((with_reducible refine k_ne ?e ?_); (case e => exact rfl))
  | ((with_reducible refine k_rI ?e ?_); (case e => first | assumption | omega | decide | exact ⟨by omega, by omega⟩ | exact .inl ⟨by omega, by omega⟩ | exact .inr ⟨by omega, by omega⟩)))
local macro_rules | `(tactic| walk_at "rd") => `(tactic| repeat walk_at "r1")
local macro_rules | `(tactic| walk_at "r2") => `(tactic| first
  | walk_at "r1"
  | with_reducible refine k_ifTt ?_ | with_reducible refine k_ifFf ?_ | with_reducible refine k_ifNt ?_ | with_reducible refine k_ifNf ?_
  | with_reducible refine k_makeR ?_ | with_reducible refine k_tJ ?_ | with_reducible refine k_tJc ?_ | with_reducible refine k_tJn ?_ | with_reducible refine k_fmt ?_ | with_reducible refine k_lc ?_ | with_reducible refine k_din ?_ | with_reducible refine k_fld ?_ | with_reducible refine k_dget ?_
  | with_reducible refine k_dput ?_
  | with_reducible refine k_isNv ?_
  | with_reducible refine k_notNv ?_
  | with_reducible refine k_str ?_
  | with_reducible refine k_enumT ?_
  | with_reducible refine k_zipA ?_
  | with_reducible refine k_chain ?_
  | ((with_reducible refine' k_dgS ?e dkv_cells ?_); (case e => walk_at "lk"))
  | ((with_reducible refine' k_dgS ?e dkv_mixed ?_); (case e => walk_at "lk"))
  | ((with_reducible refine' k_dgS ?e dkv_turn ?_); (case e => walk_at "lk")))
local macro_rules | `(tactic| walk_at "rr") => `(tactic| repeat walk_at "r2")
-- steps end
section
variable {P : Program} {w : World} {K : PySem.W.Frag} {mg : Str → Option Value} {g0 : Heap}
abbrev s_names : Stmt := top 26
theorem sc_names : FnScope ["_law_deck_here", "_law_many", "_law_found", "_law_letters", "_law_way", "_law_first", "_law_turned", "_law_words", "_law_at", "_law_sign", "_law_k"] ["_law_deck_here", "_law_many"] (defScope s_names) :=
  ⟨rfl, rfl, rfl, by decide +kernel, rfl, by decide +kernel, by decide +kernel⟩
def StrsAt (H : Hp) (l : Addr) (zs : List Str) : Prop := H l = some (.lst (zs.map V.str))
theorem ext_free {M : Addr → Prop} {H H' : Hp} {a : Addr} (x : Ext M H H') (n : ¬ M a) (h : H' a = none) : H a = none := by
  match e : H a with
  | none => rfl
  | some o =>
    rw [x.2 a o n e] at h
    cases h
theorem er_map {α β : Type} (f : α → β) : ∀ (xs : List α) (r : Nat), (xs.map f).eraseIdx r = (xs.eraseIdx r).map f
  | [], _ => by simp
  | x :: xs, 0 => by simp
  | x :: xs, r + 1 => by simp [er_map f xs r]
theorem er_perm {α : Type} : ∀ (xs : List α) (r : Nat) (h : r < xs.length), (xs[r] :: xs.eraseIdx r).Perm xs
  | x :: xs, 0, _ => by simp
  | x :: xs, r + 1, h => by
    have h' : r < xs.length := by simpa using h
    have := er_perm xs r h'
    simp only [List.getElem_cons_succ, List.eraseIdx_cons_succ]
    exact (List.Perm.swap x xs[r] (xs.eraseIdx r)).trans (this.cons x)
def spNames : Sp := fun vs H Q _ => ∃ (d c : Addr) (b : Int) (many : Nat), vs = [.ref d, .int many] ∧ Deck d c b H ∧ b ≤ 1000000 ∧ many ≤ 4 ∧
  ∀ (l : Addr) (zs : List Str) (H' : Hp), zs.length = many → zs.Nodup → (∀ z ∈ zs, isNameB z = true) → Deck d c (b + 10) H' → Ext (Dk d c) H H' → StrsAt H' l zs → ¬ Dk d c l → H l = none → Q (.ref l) H'
theorem ok_names {f : Addr} {fd : FuncData} (F : Fun K "_law_names" "_law_names" s_names f fd) (z_range : mg "range" = none) (z_len : mg "len" = none)
    (C_draw : Cal P w K mg g0 "_law_draw" 1 ["_law_deck_here", "_law_many"] spDraw) : GOk P w K mg g0 CX0 2 f fd ["_law_deck_here", "_law_many"] spNames := by
  have nd := sc_names.nd
  refine okG F sc_names (fun vs H Q E h => ?_) (fun cdv A up s H vs Q E qt hr h => ?_)
  · obtain ⟨d, c, b, many, rfl, _⟩ := h
    rfl
  · obtain ⟨d, c, b, many, rfl, D, hb, hm, k⟩ := h
    refine ⟨_, (pss_cons (ps_asg (pe_tup (pa_cons pe_str (pa_cons (pe_c C_draw qt (hr.mono (by decide)) (pa_cons (pv 0) (pa_cons pe_int pa_nil))) (pa_cons (pe_c C_draw qt (hr.mono (by decide)) (pa_cons (pv 0) (pa_cons pe_int pa_nil))) pa_nil)))) (pg_tup rfl (pgs_cons (pg_name (i := 3) nd rfl (Or.inl rfl)) (pgs_cons (pg_name (i := 4) nd rfl (Or.inl rfl)) (pgs_cons (pg_name (i := 5) nd rfl (Or.inr rfl)) pgs_nil)))))
        (pss_cons (ps_asg (pe_tup (pa_cons (pe_op op_add_str (pe_slice sl_str (pv 3) (po_some (pv 5)) po_none) (pe_slice sl_str (pv 3) po_none (po_some (pv 5)))) (pa_cons (pe_lst (pa_cons pe_str (pa_cons pe_str (pa_cons pe_str (pa_cons pe_str (pa_cons pe_str (pa_cons pe_str (pa_cons pe_str (pa_cons pe_str pa_nil))))))))) pa_nil))) (pg_tup rfl (pgs_cons (pg_name (i := 6) nd rfl (Or.inr rfl)) (pgs_cons (pg_name (i := 7) nd rfl (Or.inl rfl)) pgs_nil))))
        (pss_cons (ps_set (i := 2) nd rfl (Or.inr rfl) (pe_lc (own := [("_law_sign", 9)]) (g := (gName 9)) (tt := tYes) (te := (tVar 9)) (by rfl) nd (pi_str (pe_slice sl_str (pv 6) po_none (po_some pe_int))) (blkOk_by (own := [("_law_sign", 9)]) (N := ["_law_deck_here", "_law_many", "_law_found", "_law_letters", "_law_way", "_law_first", "_law_turned", "_law_words", "_law_at", "_law_sign", "_law_k"]) (sc := defScope s_names) (by decide +kernel)) (fun _ _ _ _ _ => by exact (pg_name (i := 9) nd rfl (Or.inl rfl))) (fun _ _ _ _ _ => by exact pts_nil) (fun _ _ _ _ _ => by exact (pv 9))))
        (Evl.pss_cut (ps_if (pt_cmpR op_eq (pv 4) pe_int (nomark _)) (pss_one (ps_set (i := 2) nd rfl (Or.inr rfl) (pe_lc (own := [("_law_k", 10)]) (g := (gName 10)) (tt := tYes) (te := (tOp _ (tOp _ (tVar 6) (tOp _ (tVar 5) (tC (.int 3)))) (tOp _ (tC (.int 1)) (tVar 10)))) (by rfl) nd (pi_range1 (by rfl) z_range (pa_cons pe_int pa_nil)) (blkOk_by (own := [("_law_k", 10)]) (N := ["_law_deck_here", "_law_many", "_law_found", "_law_letters", "_law_way", "_law_first", "_law_turned", "_law_words", "_law_at", "_law_sign", "_law_k"]) (sc := defScope s_names) (by decide +kernel)) (fun _ _ _ _ _ => by exact (pg_name (i := 10) nd rfl (Or.inl rfl))) (fun _ _ _ _ _ => by exact pts_nil) (fun _ _ _ _ _ => by exact (pe_op op_repS (pe_ix ix_str (pv 6) (pe_op op_mod (pv 5) pe_int) (fun _ _ => rfl)) (pe_op op_add pe_int (pv 10))))))) pss_nil)
        (Evl.pss_cut (ps_if (pt_cmpR op_eq (pv 4) pe_int (nomark _)) (pss_cons (ps_set (i := 8) nd rfl (Or.inr rfl) (pe_c C_draw qt (hr.mono (by decide)) (pa_cons (pv 0) (pa_cons pe_int pa_nil))))
        (pss_one (ps_set (i := 2) nd rfl (Or.inr rfl) (pe_lc (own := [("_law_sign", 9)]) (g := (gName 9)) (tt := tYes) (te := (tOp _ (tOp _ (tSl _ (tVar 6) (tPart (tC (.int 8))) (tPart (tOp _ (tC (.int 8)) (tVar 8)))) (tVar 9)) (tSl _ (tVar 6) (tPart (tOp _ (tC (.int 9)) (tVar 8))) (tPart (tC (.int 16)))))) (by rfl) nd (pi_str (pe_slice sl_str (pv 6) po_none (po_some pe_int))) (blkOk_by (own := [("_law_sign", 9)]) (N := ["_law_deck_here", "_law_many", "_law_found", "_law_letters", "_law_way", "_law_first", "_law_turned", "_law_words", "_law_at", "_law_sign", "_law_k"]) (sc := defScope s_names) (by decide +kernel)) (fun _ _ _ _ _ => by exact (pg_name (i := 9) nd rfl (Or.inl rfl))) (fun _ _ _ _ _ => by exact pts_nil) (fun _ _ _ _ _ => by exact (pe_op op_add_str (pe_op op_add_str (pe_slice sl_str (pv 6) (po_some pe_int) (po_some (pe_op op_add pe_int (pv 8)))) (pv 9)) (pe_slice sl_str (pv 6) (po_some (pe_op op_add pe_int (pv 8))) (po_some pe_int)))))))) pss_nil)
        (Evl.pss_cut (ps_if (pt_cmpR op_eq (pv 4) pe_int (nomark _)) (pss_one (ps_set (i := 2) nd rfl (Or.inr rfl) (pv 7))) pss_nil)
        (pss_one (ps_ret (pe_lc (own := [("_law_k", 10)]) (g := (gName 10)) (tt := tYes) (te := (tBM _ "list" _ (tVar 2) (tCons (tCall _ [] E0 (tCons (tVar 0) (tCons (tCB _ (tCons (tVar 2) tNil)) tNil))) tNil))) (by rfl) nd (pi_range1 (by rfl) z_range (pa_cons (pv 1) pa_nil)) (blkOk_by (own := [("_law_k", 10)]) (N := ["_law_deck_here", "_law_many", "_law_found", "_law_letters", "_law_way", "_law_first", "_law_turned", "_law_words", "_law_at", "_law_sign", "_law_k"]) (sc := defScope s_names) (by decide +kernel)) (fun _ _ _ _ _ => by exact (pg_name (i := 10) nd rfl (Or.inl rfl))) (fun _ _ _ _ _ => by exact pts_nil) (fun _ _ _ _ _ => by exact (pe_bm PySem.F.plainAttrs_list PySem.F.slot_list_pop PySem.F.type_list_pop mt_popAt (pv 2) (pa_cons (pe_c C_draw qt (hr.mono (by decide)) (pa_cons (pv 0) (pa_cons (pe_callB (c_lenK (K := K) rfl) (by rfl) z_len (by decide +kernel) (pa_cons (pv 2) pa_nil)) pa_nil))) pa_nil)))))))))))), ?_⟩
    walk_at "rr"
    refine ⟨d, c, b, 4, rfl, D, by omega, by decide, by decide, fun way H1 w0 w1 D1 x1 => ?_⟩
    walk_at "rr"
    refine ⟨d, c, b + 1, 26, rfl, D1, by omega, by decide, by decide, fun fir H2 f0 f1 D2 x2 => ?_⟩
    obtain ⟨way, rfl⟩ := Int.eq_ofNat_of_zero_le w0
    obtain ⟨fir, rfl⟩ := Int.eq_ofNat_of_zero_le f0
    walk_at "rr"
    refine ⟨k_sz rfl, fun p hp => ?_⟩
    refine k_gTup (SqT.of upd_same) rfl ?_
    walk_at "rr"
    have D3 := D2.new (o := .tup [V.str letters, .int way, .int fir]) hp
    have x3 := (x1.trans x2).trans (ext_new (o := .tup [V.str letters, .int way, .int fir]) hp)
    generalize upd H2 p _ = H3 at D3 x3 ⊢
    have way4 : way < 4 := by omega
    have fir26 : fir < 26 := by omega
    obtain ⟨tl1, tl2, tl3⟩ := turn_len fir fir26
    have sz : ∀ n : Nat, n ≤ 1000 → n ≤ sizeLine := fun n h => Nat.le_trans h (by decide)
    refine ⟨letters, rfl, sz _ (by decide), ?_⟩
    walk_at "rr"
    refine ⟨letters, rfl, sz _ (by decide), _, _, rfl, rfl, sz _ (by omega), ?_⟩
    rw [show cutS letters (some (fir : Int)) none ++ cutS letters none (some (fir : Int)) = turnedOf fir from rfl]
    walk_at "rr"
    refine ⟨k_sz rfl, fun wl hwl => ?_⟩
    walk_at "rr"
    refine ⟨k_sz rfl, fun p2 hp2 => ?_⟩
    refine k_gTup (SqT.of upd_same) rfl ?_
    walk_at "rr"
    have D4 := (D3.new (o := .lst [.str "table", .str "index", .str "key", .str "next", .str "row", .str "from", .str "set", .str "none"]) hwl).new (o := .tup [.str (turnedOf fir), .ref wl]) hp2
    have x4 := (x3.trans (ext_new (o := .lst [.str "table", .str "index", .str "key", .str "next", .str "row", .str "from", .str "set", .str "none"]) hwl)).trans (ext_new (o := .tup [.str (turnedOf fir), .ref wl]) hp2)
    have hw4 : StrsAt (upd (upd H3 wl (.lst [.str "table", .str "index", .str "key", .str "next", .str "row", .str "from", .str "set", .str "none"])) p2 (.tup [.str (turnedOf fir), .ref wl])) wl words := lk_new upd_same hp2
    have hwD : ¬ Dk d c wl := D3.off hwl
    have wlH : H wl = none := ext_free x3 hwD hwl
    generalize upd (upd H3 wl _) p2 _ = H4 at D4 x4 hw4 ⊢
    refine ⟨turnedOf fir, rfl, sz _ (by omega), _, rfl, fun L0 hL0 => ?_⟩
    let Mid : Int → (List Str → Prop) → L2.St → Hp → Prop := fun n Pz σ' H' => ∃ L zs o8, σ' = [some (.ref d), some (.int many), some (.ref L), some (.str letters), some (.int way), some (.int fir), some (.str (turnedOf fir)), some (.ref wl), o8, none, none] ∧ Pz zs ∧ StrsAt H' L zs ∧ StrsAt H' wl words ∧
      Deck d c (b + n) H' ∧ Ext (Dk d c) H H' ∧ ¬ Dk d c L ∧ H L = none
    let P1 : List Str → Prop := fun zs => (way = 1 → zs = mulsOf fir) ∧ (way ≠ 1 → zs = signsOf fir)
    let P2 : List Str → Prop := fun zs => (way = 1 → zs = mulsOf fir) ∧ (way = 2 → ∃ a, a < 7 ∧ zs = putsOf fir a) ∧ (way ≠ 1 → way ≠ 2 → zs = signsOf fir)
    let P3 : List Str → Prop := fun zs => ∃ a, a < 7 ∧ zs = foundOf way fir a
    have sg : ∀ (k : Nat) (cc : Nat), (cutS (turnedOf fir) none (some 8)).cps[k]? = some cc → (signsOf fir)[k]? = some ⟨#[cc]⟩ := fun k cc e => by
      unfold signsOf
      rw [List.getElem?_map, Array.getElem?_toList, e]
      rfl
    have sgl : (cutS (turnedOf fir) none (some 8)).cps.size = 8 := by
      have := tl3
      unfold signsOf at this
      rw [List.length_map] at this
      exact this
    refine lc_same walk_str (fun i => match (signsOf fir)[i]? with | some x => .str x | none => .non) (fun _ => true) (by omega) hL0 (fun _ _ => trivial) (fun k x H5 H6 hk s1 y Q1 R1 q1 _ => ?_) fun H5 s5 hD1 => ?_
    · obtain ⟨rfl, cc, hc, rfl⟩ := y
      rw [sg k cc hc] at q1
      walk_at "rr"
      refine ⟨rfl, k_yes ?_⟩
      walk_at "rr"
      exact q1 rfl _ (Same.refl _)
    rw [range_all, sgl, ← tl3, range_get (signsOf fir) _ V.str (fun k x e => by rw [e])] at hD1
    walk_at "rr"
    have L0n : ¬ Dk d c L0 := D4.off hL0
    have L0f : H L0 = none := ext_free x4 L0n hL0
    refine ⟨Mid 4 P1, ?_, ?_⟩
    · walk_at "rr"
      refine k_iteD (fun w1' => ?_) fun w1' => ?_
      · walk_at "rr"
        refine ⟨8, rfl, by decide, by decide, fun D8 hD8 => ?_⟩
        have w1n : way = 1 := by
          have := V.int.inj w1'
          omega
        have f3 : (fir : Int) % 3 = ((fir % 3 : Nat) : Int) := by omega
        have ch : atI (turnedOf fir).cps.toList ((fir : Int) % 3) = some ((turnedOf fir).cps.toList.getD (fir % 3) 0) := by
          have l : fir % 3 < (turnedOf fir).cps.toList.length := by
            have : (turnedOf fir).cps.toList.length = (turnedOf fir).length := rfl
            omega
          rw [f3, atI_nat (List.getElem?_eq_getElem l), List.getD_eq_getElem?_getD, List.getElem?_eq_getElem l]
          rfl
        refine lc_same (walk_range (lo := 0) (n := 8)) (fun i => match (mulsOf fir)[i]? with | some x => .str x | none => .non) (fun _ => true) (by decide) hD8 (fun _ _ => trivial) (fun k x H6 H7 hk s6 y Q1 R1 q1 _ => ?_) fun H6 s6 hD9 => ?_
        · obtain ⟨rfl, rfl⟩ := y
          have e : (mulsOf fir)[k]? = some (Txt.mul ⟨#[(turnedOf fir).cps.toList.getD (fir % 3) 0]⟩ (1 + (k : Int))) := by
            unfold mulsOf
            rw [List.getElem?_map, List.getElem?_range hk]
            rfl
          rw [e] at q1
          walk_at "rr"
          refine ⟨rfl, k_yes ?_⟩
          walk_at "rr"
          refine ⟨turnedOf fir, _, _, rfl, rfl, sz _ (by omega), ch, ?_⟩
          walk_at "rr"
          refine ⟨_, _, rfl, rfl, (by show 1 ≤ 1000; decide), by omega, by omega, ?_⟩
          rw [Int.zero_add]
          exact q1 rfl _ (Same.refl _)
        have ml : (mulsOf fir).length = 8 := by
          unfold mulsOf
          rw [List.length_map, List.length_range]
        rw [range_all, ← ml, range_get (mulsOf fir) _ V.str (fun k x e => by rw [e])] at hD9
        walk_at "rr"
        exact ⟨D8, _, none, rfl, ⟨fun _ => rfl, fun z => absurd w1n z⟩, hD9, s6 _ _ (s5 _ _ hw4), ((D4.mono (by omega)).same s5).same s6, (x4.trans (Same.ext s5)).trans (Same.ext s6), (D4.same s5).off hD8, ext_free (x4.trans (Same.ext s5)) ((D4.same s5).off hD8) hD8⟩
      · walk_at "rr"
        exact ⟨L0, _, none, rfl, ⟨fun z => absurd (by rw [z]; rfl) w1', fun _ => rfl⟩, hD1, s5 _ _ hw4, (D4.mono (by omega)).same s5, x4.trans (Same.ext s5), L0n, L0f⟩
    · rintro σ5 H7 ⟨L, zs, o8, rfl, hz, hL, hw7, D7, x7, Ln, Lf⟩
      refine ⟨Mid 5 P2, ?_, ?_⟩
      · walk_at "rr"
        refine k_iteD (fun w1' => ?_) fun w1' => ?_
        · walk_at "rr"
          refine ⟨d, c, b + 4, 7, rfl, D7, by omega, by decide, by decide, fun at_ H8 a0 a1 D8 x8 => ?_⟩
          obtain ⟨at_, rfl⟩ := Int.eq_ofNat_of_zero_le a0
          have at7 : at_ < 7 := by omega
          have w2n : way = 2 := by
            have := V.int.inj w1'
            omega
          walk_at "rr"
          refine ⟨turnedOf fir, rfl, sz _ (by omega), _, rfl, fun D9 hD9 => ?_⟩
          refine lc_same walk_str (fun i => match (putsOf fir at_)[i]? with | some x => .str x | none => .non) (fun _ => true) (by omega) hD9 (fun _ _ => trivial) (fun k x H9 H10 hk s9 y Q1 R1 q1 _ => ?_) fun H9 s9 hD10 => ?_
          · obtain ⟨rfl, cc, hc, rfl⟩ := y
            have e : (putsOf fir at_)[k]? = some ((cutS (turnedOf fir) (some 8) (some (8 + (at_ : Int))) ++ ⟨#[cc]⟩) ++ cutS (turnedOf fir) (some (9 + (at_ : Int))) (some 16)) := by
              unfold putsOf
              rw [List.getElem?_map, sg k cc hc]
              rfl
            rw [e] at q1
            have c1 := J1.cutS_len_le (turnedOf fir) (some 8) (some (8 + (at_ : Int)))
            have c2 := J1.cutS_len_le (turnedOf fir) (some (9 + (at_ : Int))) (some 16)
            walk_at "rr"
            refine ⟨rfl, k_yes ?_⟩
            walk_at "rr"
            refine ⟨turnedOf fir, rfl, sz _ (by omega), ?_⟩
            walk_at "rr"
            refine ⟨_, _, rfl, rfl, sz _ (by show _ + 1 ≤ 1000; omega), ?_⟩
            walk_at "rr"
            refine ⟨turnedOf fir, rfl, sz _ (by omega), ?_⟩
            walk_at "rr"
            refine ⟨_, _, rfl, rfl, sz _ (by rw [Str.length_append]; show _ + 1 + _ ≤ 1000; omega), ?_⟩
            exact q1 rfl _ (Same.refl _)
          have pl : (putsOf fir at_).length = 8 := by
            unfold putsOf
            rw [List.length_map, tl3]
          rw [range_all, sgl, ← pl, range_get (putsOf fir at_) _ V.str (fun k x e => by rw [e])] at hD10
          walk_at "rr"
          have hw8 : StrsAt H8 wl words := x8.2 _ _ hwD hw7
          exact ⟨D9, _, some (.int at_), rfl, ⟨fun z => absurd (w2n.symm.trans z) (by decide), fun _ => ⟨at_, at7, rfl⟩, fun _ z => absurd w2n z⟩, hD10, s9 _ _ hw8, (D8.mono (by omega)).same s9, (x7.trans x8).trans (Same.ext s9), D8.off hD9, ext_free (x7.trans x8) (D8.off hD9) hD9⟩
        · walk_at "rr"
          exact ⟨L, zs, o8, rfl, ⟨hz.1, fun z => absurd (by rw [z]; rfl) w1', fun z _ => hz.2 z⟩, hL, hw7, D7.mono (by omega), x7, Ln, Lf⟩
      · rintro σ5 H7 ⟨L, zs, o8, rfl, hz, hL, hw7, D7, x7, Ln, Lf⟩
        refine ⟨Mid 5 P3, ?_, ?_⟩
        · walk_at "rr"
          refine k_iteD (fun w1' => ?_) fun w1' => ?_
          · have w3 : way = 3 := by
              have := V.int.inj w1'
              omega
            walk_at "rr"
            refine ⟨wl, words, o8, rfl, ⟨0, by decide, ?_⟩, hw7, hw7, D7, x7, hwD, wlH⟩
            subst w3
            rfl
          · walk_at "rr"
            refine ⟨L, zs, o8, rfl, ?_, hL, hw7, D7, x7, Ln, Lf⟩
            have w3 : way ≠ 3 := fun z => w1' (by rw [z]; rfl)
            show ∃ a, a < 7 ∧ zs = foundOf way fir a
            unfold foundOf
            by_cases z1 : way = 1
            · exact ⟨0, by decide, by rw [if_pos z1]; exact hz.1 z1⟩
            · by_cases z2 : way = 2
              · obtain ⟨a, a7, e⟩ := hz.2.1 z2
                exact ⟨a, a7, by rw [if_neg z1, if_pos z2]; exact e⟩
              · exact ⟨0, by decide, by rw [if_neg z1, if_neg z2, if_neg w3]; exact hz.2.2 z1 z2⟩
        · rintro σ5 H7 ⟨L, zs, o8, rfl, ⟨at_, at7, rfl⟩, hL, hw7, D7, x7, Ln, Lf⟩
          have e8 := eight_of way4 fir26 at7
          generalize foundOf way fir at_ = zs at e8 hL
          walk_at "rr"
          refine ⟨many, rfl, by omega, by omega, fun D9 hD9 => ?_⟩
          have D9n : ¬ Dk d c D9 := D7.off hD9
          have D9f : H D9 = none := ext_free x7 D9n hD9
          have nLD : L ≠ D9 := fun z => by
            rw [z, StrsAt, hD9] at hL
            cases hL
          refine lc_it (walk_range (lo := 0) (n := many)) (fun k H' => ∃ ys xs : List Str, H' D9 = some (.lst (ys.map V.str)) ∧ StrsAt H' L xs ∧ ys.length = k ∧ (ys ++ xs).Perm zs ∧ Deck d c (b + 5 + k) H' ∧ Ext (Dk d c) H H')
            ⟨[], zs, upd_same, (upd_ne nLD).trans hL, rfl, .refl _, by simpa using D7.new hD9, ext_off x7 D9f⟩ (fun _ _ _ _ => trivial) (fun k x H8 H9 hk h y => ?_) fun H8 h => ?_
          · obtain ⟨ys, xs, hD, hLx, ly, pm, D8, x8⟩ := h
            obtain ⟨rfl, rfl⟩ := y
            have lx : xs.length = 8 - k := by
              have := pm.length_eq
              rw [List.length_append, e8.len] at this
              omega
            walk_at "rr"
            refine ⟨rfl, k_yes ?_⟩
            walk_at "rr"
            refine ⟨.inl ⟨rfl, _, SqL.of hLx⟩, ?_⟩
            walk_at "rr"
            rw [List.length_map]
            refine ⟨d, c, b + 5 + k, xs.length, rfl, D8, by omega, by omega, by omega, fun r H10 r0 r1 D10 x10 => ?_⟩
            obtain ⟨r, rfl⟩ := Int.eq_ofNat_of_zero_le r0
            have rl : r < xs.length := by omega
            have hL10 := x10.2 _ _ Ln hLx
            have hD10 := x10.2 _ _ D9n hD
            walk_at "rr"
            refine ⟨L, _, r, r, .str xs[r], rfl, rfl, hL10, by omega, by omega, ?_, ?_, ?_⟩
            · rw [List.length_map]
              unfold seqIndex?
              have n0 : ¬ ((r : Int) < 0) := by omega
              simp only [n0, if_false]
              rw [if_pos (by rw [Bool.and_eq_true]; exact ⟨decide_eq_true (by omega), decide_eq_true (by omega)⟩)]
              rfl
            · rw [List.getElem?_map, List.getElem?_eq_getElem rl]
              rfl
            · refine ⟨_, (upd_ne nLD.symm).trans hD10, k_szL (by rw [List.length_map]; omega), ys ++ [xs[r]], xs.eraseIdx r, ?_, ?_, ?_, ?_, ?_, ?_⟩
              · rw [upd_same, List.map_append]
                rfl
              · rw [StrsAt, upd_ne nLD, upd_same, er_map]
              · rw [List.length_append, ly]
                rfl
              · rw [List.append_assoc]
                exact (List.Perm.append_left ys (er_perm xs r rl)).trans pm
              · refine ((D10.offL Ln).offL D9n).mono (by omega)
              · exact ext_off (ext_off (x8.trans x10) Lf) D9f
          · obtain ⟨ys, xs, hD, hLx, ly, pm, D8, x8⟩ := h
            have nd2 := (pm.nodup_iff.mpr e8.nd)
            exact k D9 ys H8 ly (List.nodup_append.mp nd2).1 (fun z hz => e8.nm z (pm.mem_iff.mp (List.mem_append_left _ hz))) (D8.mono (by omega)) x8 hD D9n D9f
end
end K01

set_option Elab.async false
set_option maxRecDepth 100000
set_option maxHeartbeats 4000000
set_option linter.unusedVariables false
namespace K01
open PySem PySem.Spec PyProof.Rows L2 Own
-- steps
local macro_rules | `(tactic| walk_at "lk") => `(tactic| first
  | assumption | exact upd_same
  | ((with_reducible refine' lk_new ?e (by assumption)); (case e => walk_at "lk"))
  | ((with_reducible refine' lk_ext (by assumption) ?e); (case e => walk_at "lk"))
  | ((with_reducible refine' lk_same (by assumption) ?e); (case e => walk_at "lk")))
local macro_rules | `(tactic| walk_at "sq") => `(tactic| first | assumption | exact SqL.of (by walk_at "lk") | exact SqT.of (by walk_at "lk"))
local macro_rules | `(tactic| walk_at "r1") => `(tactic| first
  | with_reducible refine k_seq ?_ | with_reducible refine k_asg ?_ | with_reducible refine k_ret ?_ | with_reducible refine k_drop ?_ | with_reducible refine k_next ?_ | with_reducible refine k_ifS ?_
  | ((with_reducible refine' k_var ?e ?_); (case e => exact rfl)) | with_reducible refine k_c ?_ | with_reducible refine k_op ?_ | with_reducible refine k_un ?_ | with_reducible refine k_test ?_ | with_reducible refine k_B ?_
  | with_reducible refine k_and ?_ | with_reducible refine k_or ?_ | with_reducible refine k_not ?_ | with_reducible refine k_andV ?_ | with_reducible refine k_orV ?_ | with_reducible refine k_notV ?_ | with_reducible refine k_if ?_
  | with_reducible refine k_nil ?_ | with_reducible refine k_cons ?_ | with_reducible refine k_tup ?_ | with_reducible refine k_lst ?_ | with_reducible refine k_call ?_ | with_reducible refine k_cb ?_ | with_reducible refine k_ck ?_
  | with_reducible refine k_par ?_ | with_reducible refine k_par1 ?_ | with_reducible refine k_tr ?_ | with_reducible refine k_rI0 ?_ | with_reducible refine k_rU ?_
  | with_reducible refine k_gN ?_ | with_reducible refine k_gS ?_ | with_reducible refine k_gNil ?_ | with_reducible refine k_gCons ?_ | with_reducible refine k_bm0 ?_ | with_reducible refine k_bm ?_
  | with_reducible refine k_for ?_ | with_reducible refine k_iL ?_ | with_reducible refine k_iT ?_ | with_reducible refine k_iR1 ?_ | ((with_reducible refine k_iR1i ?e ?_); (case e => first | decide | exact ⟨by omega, by omega⟩))
  | with_reducible refine k_max ?_ | with_reducible refine k_isB ?_ | with_reducible refine k_sl ?_ | with_reducible refine k_noP ?_ | with_reducible refine k_part ?_ | with_reducible refine k_partI ?_ | with_reducible refine k_revL ?_
  | ((with_reducible refine' k_ixqT ?e ?f ?_); (case e => walk_at "sq"); (case f => first | exact rfl | exact atI_head))
  | ((with_reducible refine' k_ixqL ?e ?f ?_); (case e => walk_at "sq"); (case f => first | exact rfl | exact atI_head))
  | ((with_reducible refine' k_lenL ?e ?_); (case e => walk_at "sq"))
  | ((with_reducible refine' k_lenT ?e ?_); (case e => walk_at "sq"))
  | ((with_reducible refine' k_ixL ?e ?f ?_); (case e => walk_at "sq"); (case f => first | exact rfl | exact atI_head))
  | ((with_reducible refine' k_ixT ?e ?f ?_); (case e => walk_at "sq"); (case f => first | exact rfl | exact atI_head))
  | ((with_reducible refine k_eq ?e ?_); (case e => exact rfl)) | ((with_reducible refine k_ne ?e ?_); (case e => exact rfl))
  | ((with_reducible refine k_rI ?e ?_); (case e => first | assumption | omega | decide | exact ⟨by omega, by omega⟩ | exact .inl ⟨by omega, by omega⟩ | exact .inr ⟨by omega, by omega⟩)))
local macro_rules | `(tactic| walk_at "rd") => `(tactic| repeat walk_at "r1")
local macro_rules | `(tactic| walk_at "r2") => `(tactic| first
  | walk_at "r1"
  | with_reducible refine k_ifTt ?_ | with_reducible refine k_ifFf ?_ | with_reducible refine k_ifNt ?_ | with_reducible refine k_ifNf ?_
  | with_reducible refine k_makeR ?_ | with_reducible refine k_tJ ?_ | with_reducible refine k_tJc ?_ | with_reducible refine k_tJn ?_ | with_reducible refine k_fmt ?_ | with_reducible refine k_lc ?_ | with_reducible refine k_din ?_ | with_reducible refine k_fld ?_ | with_reducible refine k_dget ?_
  | with_reducible refine k_dput ?_
  | with_reducible refine k_isNv ?_
  | with_reducible refine k_notNv ?_
  | with_reducible refine k_str ?_
  | with_reducible refine k_enumT ?_
  | with_reducible refine k_zipA ?_
  | with_reducible refine k_chain ?_
  | ((with_reducible refine' k_dgS ?e dkv_cells ?_); (case e => walk_at "lk"))
  | ((with_reducible refine' k_dgS ?e dkv_mixed ?_); (case e => walk_at "lk"))
  | ((with_reducible refine' k_dgS ?e dkv_turn ?_); (case e => walk_at "lk")))
local macro_rules | `(tactic| walk_at "rr") => `(tactic| repeat walk_at "r2")
-- steps end
section
variable {P : Program} {w : World} {K : PySem.W.Frag} {mg : Str → Option Value} {g0 : Heap}
abbrev s_table : Stmt := top 27
theorem sc_table : FnScope ["_law_deck_here", "_law_name", "_law_columns", "_law_marks", "_law_k", "_law_one"] ["_law_deck_here", "_law_name"] (defScope s_table) :=
  ⟨rfl, rfl, rfl, by decide +kernel, rfl, by decide +kernel, by decide +kernel⟩
abbrev s_tables : Stmt := top 28
theorem sc_tables : FnScope ["_law_deck_here", "_law_many", "_law_name"] ["_law_deck_here", "_law_many"] (defScope s_tables) :=
  ⟨rfl, rfl, rfl, by decide +kernel, rfl, by decide +kernel, by decide +kernel⟩
theorem ixN_0 (n : Nat) : ixN (n + 1) 0 = some 0 := by
  unfold ixN
  simp
def spTableL : Sp := fun vs H Q _ => ∃ (d c : Addr) (b : Int) (nm : Str), vs = [.ref d, .str nm] ∧ Deck d c b H ∧ b ≤ 900000 ∧ isNameB nm = true ∧
  ∀ (a : Addr) (t : T) (H' : Hp), t.nm = nm → t.Ok → TAt H' a t → Deck d c (b + 30) H' → Ext (Dk d c) H H' → Q (.ref a) H'
theorem ok_tableL {f : Addr} {fd : FuncData} (F : Fun K "_law_table" "_law_table" s_table f fd) (z_range : mg "range" = none) (z_tuple : mg "tuple" = none) (z_sorted : mg "sorted" = none)
    (C_draw : Cal P w K mg g0 "_law_draw" 1 ["_law_deck_here", "_law_many"] spDraw) (C_names : Cal P w K mg g0 "_law_names" 2 ["_law_deck_here", "_law_many"] spNames) : GOk P w K mg g0 CX0 3 f fd ["_law_deck_here", "_law_name"] spTableL := by
  have nd := sc_table.nd
  refine okG F sc_table (fun vs H Q E h => ?_) (fun cdv A up s H vs Q E qt hr h => ?_)
  · obtain ⟨d, c, b, nm, rfl, _⟩ := h
    rfl
  · obtain ⟨d, c, b, nm, rfl, D, hb, hn, k⟩ := h
    refine ⟨_, (pss_cons (ps_set (i := 2) nd rfl (Or.inl rfl) (pe_slice sl_list (pe_c C_names qt (hr.mono (by decide)) (pa_cons (pv 0) (pa_cons pe_int pa_nil))) po_none (po_some (pe_op op_add pe_int (pe_c C_draw qt (hr.mono (by decide)) (pa_cons (pv 0) (pa_cons pe_int pa_nil)))))))
        (Evl.pss_cut (ps_if (PW.pt (pw_and (pt_cmpR op_eq (pe_c C_draw qt (hr.mono (by decide)) (pa_cons (pv 0) (pa_cons pe_int pa_nil))) pe_int (nomark _)) (pw_and1 (pt_cmpR (op_notInK (K := K) rfl) (pv 1) (pv 2) (by rfl))))) (pss_one (ps_asg (pv 1) (pg_sub (pv 2) pe_int set_list))) pss_nil)
        (pss_cons (ps_set (i := 3) nd rfl (Or.inl rfl) (pe_lst pa_nil))
        (pss_cons (ps_for PassesOwn.never rfl (pi_range1 (by rfl) z_range (pa_cons pe_int pa_nil)) (pg_name (i := 4) nd rfl (Or.inl rfl)) (pss_one (ps_expr (pe_bm PySem.F.plainAttrs_list PySem.F.slot_list_append PySem.F.type_list_append mt_append (pv 3) (pa_cons (pe_callTy call_tuple_of (by rfl) z_tuple (by decide +kernel) (pa_cons (pe_lc (own := [("_law_one", 5)]) (g := (gName 5)) (tt := (tTest (tOp _ (tCall _ [] E0 (tCons (tVar 0) (tCons (tC (.int 2)) tNil))) (tC (.int 0))))) (te := (tVar 5)) (by rfl) nd (pi_list (pe_callB cr_sortedS (by rfl) z_sorted (by decide +kernel) (pa_cons (pv 2) pa_nil))) (blkOk_by (own := [("_law_one", 5)]) (N := ["_law_deck_here", "_law_name", "_law_columns", "_law_marks", "_law_k", "_law_one"]) (sc := defScope s_table) (by decide +kernel)) (fun _ _ _ _ _ => by exact (pg_name (i := 5) nd rfl (Or.inl rfl))) (fun _ _ _ _ _ => by exact (pts_one (pt_cmpR op_eq (pe_c C_draw qt (hr.mono (by decide)) (pa_cons (pv 0) (pa_cons pe_int pa_nil))) pe_int (nomark _)))) (fun _ _ _ _ _ => by exact (pv 5))) pa_nil)) pa_nil)))))
        (pss_one (ps_ret (pe_tup (pa_cons (pv 1) (pa_cons (pe_callTy call_tuple_of (by rfl) z_tuple (by decide +kernel) (pa_cons (pv 2) pa_nil)) (pa_cons (pe_ix ix_seq (pv 3) pe_int (fun _ _ => rfl)) (pa_cons (pe_ix ix_seq (pv 3) pe_int (fun _ _ => rfl)) pa_nil))))))))))), ?_⟩
    walk_at "rr"
    refine ⟨d, c, b, 3, rfl, D, by omega, by decide, fun l zs H1 lz ndz nz D1 x1 hl nl hf => ?_⟩
    walk_at "rr"
    refine ⟨d, c, b + 10, 3, rfl, D1, by omega, by decide, by decide, fun r H2 r0 r1 D2 x2 => ?_⟩
    obtain ⟨r, rfl⟩ := Int.eq_ofNat_of_zero_le r0
    walk_at "rr"
    have e1r : (1 + (r : Int)) = ((1 + r : Nat) : Int) := by omega
    have hl2 : StrsAt H2 l zs := x2.2 _ _ nl hl
    refine ⟨l, _, rfl, SqL.of hl2, fun p0 hp0 => ?_⟩
    rw [e1r, cut_to, ← List.map_take]
    have D3 := D2.new (o := .lst ((zs.take (1 + r)).map V.str)) hp0
    have x3 := (x1.trans x2).trans (ext_new (o := .lst ((zs.take (1 + r)).map V.str)) hp0)
    have h3 : StrsAt (upd H2 p0 (.lst ((zs.take (1 + r)).map V.str))) p0 (zs.take (1 + r)) := upd_same
    have n3 : ¬ Dk d c p0 := D2.off hp0
    have n0 := n3
    have f3 : H p0 = none := ext_free (x1.trans x2) n3 hp0
    have l3 : (zs.take (1 + r)).length = 1 + r := by
      rw [List.length_take]
      omega
    have nd3 : (zs.take (1 + r)).Nodup := ndz.sublist (List.take_sublist _ _)
    have nz3 : ∀ z ∈ zs.take (1 + r), isNameB z = true := fun z hz => nz z (List.mem_of_mem_take hz)
    generalize upd H2 p0 _ = H3 at D3 x3 h3 ⊢
    generalize zs.take (1 + r) = cs at h3 l3 nd3 nz3
    walk_at "rr"
    let Mid : L2.St → Hp → Prop := fun σ' H' => ∃ cs : List Str, σ' = [some (.ref d), some (.str nm), some (.ref p0), none, none, none] ∧ StrsAt H' p0 cs ∧ 1 ≤ cs.length ∧ cs.length ≤ 3 ∧ cs.Nodup ∧ (∀ z ∈ cs, isNameB z = true) ∧ Deck d c (b + 12) H' ∧ Ext (Dk d c) H H'
    refine ⟨Mid, ?_, ?_⟩
    · walk_at "rr"
      refine ⟨d, c, b + 10 + 1, 4, rfl, D3, by omega, by decide, by decide, fun r2 H4 r20 r21 D4 x4 => ?_⟩
      have h4 : StrsAt H4 p0 cs := x4.2 _ _ n3 h3
      walk_at "rr"
      have same : Mid [some (.ref d), some (.str nm), some (.ref p0), none, none, none] H4 := ⟨cs, rfl, h4, by omega, by omega, nd3, nz3, D4.mono (by omega), x3.trans x4⟩
      refine k_iteD (fun z1 => ?_) fun z1 => ?_
      · walk_at "rr"
        refine ⟨p0, _, rfl, .inl (SqL.of h4), rfl, L2.flat_strs _, ?_⟩
        rw [if_pos rfl, inV_strs]
        by_cases hm : nm ∈ cs
        · rw [decide_eq_true hm]
          walk_at "rr"
          exact same
        · rw [decide_eq_false hm]
          walk_at "rr"
          match cs, h4, l3, nd3, nz3, hm with
          | [], _, l3, _, _, _ => rw [List.length_nil] at l3; omega
          | x :: cs, h4, l3, nd3, nz3, hm =>
            refine k_setL h4 (j := 0) (by rw [List.length_map]; exact ixN_0 _) ?_
            have nd5 := List.nodup_cons.mp nd3
            refine ⟨nm :: cs, rfl, upd_same, by simp, by rw [List.length_cons] at *; omega, List.nodup_cons.mpr ⟨fun z => hm (List.mem_cons_of_mem _ z), nd5.2⟩, fun z hz => ?_, (D4.mono (by omega)).offL n3, ext_off (x3.trans x4) f3⟩
            rcases List.mem_cons.mp hz with rfl | hz
            · exact hn
            · exact nz3 z (List.mem_cons_of_mem _ hz)
      · walk_at "rr"
        exact same
    · rintro σ4 H4 ⟨cs, rfl, h4, l1, l2, nd4, nz4, D4, x4⟩
      walk_at "rr"
      refine ⟨k_sz rfl, fun m0 hm0 => ?_⟩
      have m0n : ¬ Dk d c m0 := D4.off hm0
      have m0f : H m0 = none := ext_free x4 m0n hm0
      have npm : p0 ≠ m0 := fun z => by
        rw [← z, h4] at hm0
        cases hm0
      walk_at "rr"
      refine ⟨2, rfl, by decide, by decide, ?_⟩
      let Pv : Nat → L2.St → Hp → Prop := fun k σ' H' => ∃ (o4 : Option V) (ms : List (Addr × List Str)), σ' = [some (.ref d), some (.str nm), some (.ref p0), some (.ref m0), o4, none] ∧ StrsAt H' p0 cs ∧ H' m0 = some (.lst (ms.map fun m => V.ref m.1)) ∧ ms.length = k ∧
        (∀ m ∈ ms, H' m.1 = some (.tup (m.2.map V.str)) ∧ (∀ z ∈ m.2, z ∈ cs) ∧ m.2.Pairwise sLt) ∧ Deck d c (b + 12 + 3 * k) H' ∧ Ext (Dk d c) H H'
      refine for_it (walk_range (lo := 0) (n := 2)) Pv ⟨none, [], rfl, (upd_ne npm).trans h4, upd_same, rfl, (fun _ z => by cases z), by simpa using D4.new hm0, ext_off x4 m0f⟩ (fun _ _ _ _ _ => trivial) (fun k x σ H5 H6 hk h y => ?_) fun σ H5 h => ?_
      · obtain ⟨o4, ms, rfl, h5, hM, lm, am, D5, x5⟩ := h
        obtain ⟨rfl, rfl⟩ := y
        walk_at "rr"
        refine ⟨.inl ⟨rfl, _, SqL.of hM⟩, ?_⟩
        walk_at "rr"
        refine ⟨p0, cs, rfl, SqL.of h5, by omega, fun ys q pm hs hq => ?_⟩
        have D6 := D5.new (o := .lst (ys.map V.str)) hq
        have x6 := x5.trans (ext_new (o := .lst (ys.map V.str)) hq)
        have q6 : (upd H6 q (.lst (ys.map V.str))) q = some (.lst (ys.map V.str)) := upd_same
        have qn : ¬ Dk d c q := D5.off hq
        have qf : H q = none := ext_free x5 qn hq
        have a6 : ∀ m ∈ ms, (upd H6 q (.lst (ys.map V.str))) m.1 = some (.tup (m.2.map V.str)) ∧ (∀ z ∈ m.2, z ∈ cs) ∧ m.2.Pairwise sLt := fun m hm => ⟨Same.upd hq _ _ (am m hm).1, (am m hm).2⟩
        have p6 : StrsAt (upd H6 q (.lst (ys.map V.str))) p0 cs := Same.upd hq _ _ h5
        have M6 := Same.upd (o := .lst (ys.map V.str)) hq _ _ hM
        generalize upd H6 q (.lst (ys.map V.str)) = H7 at D6 x6 q6 a6 p6 M6 ⊢
        refine ⟨q, rfl, ⟨_, SqL.of q6⟩, fun D9 hD9 => ?_⟩
        have D9n : ¬ Dk d c D9 := D6.off hD9
        have D9f : H D9 = none := ext_free x6 D9n hD9
        have ly : ys.length ≤ 3 := by rw [pm.length_eq]; exact l2
        have x70 : Ext (Dk d c) H7 (upd H7 D9 (.lst [])) := ext_new hD9
        refine lc_it (walk_list (xs := ys.map V.str)) (fun i H' => ∃ gs : List Str, H' D9 = some (.lst (gs.map V.str)) ∧ gs.Sublist (ys.take i) ∧ Deck d c (b + 12 + 3 * k + i) H' ∧ Ext (Dk d c) H7 H')
          ⟨[], upd_same, List.nil_sublist _, by simpa using D6.new hD9, x70⟩ (fun i H' _ h => ?_) (fun i x H8 H9 hi h y => ?_) fun H8 h => ?_
        · obtain ⟨_, _, _, _, x8⟩ := h
          exact SqL.of (x8.2 _ _ qn q6)
        · obtain ⟨gs, hD, sb, D8, x8⟩ := h
          obtain ⟨rfl, y⟩ := y
          have e : (ys.map V.str)[i]? = some x := y
          rw [List.getElem?_map] at e
          obtain ⟨z, hz, rfl⟩ := Option.map_eq_some_iff.mp e
          have hi3 : i < ys.length := (List.getElem?_eq_some_iff.mp hz).1
          have lg : gs.length ≤ 3 := by
            have := sb.length_le
            rw [List.length_take] at this
            omega
          have tk : ys.take (i + 1) = ys.take i ++ [z] := by
            rw [List.take_add_one, hz]
            rfl
          walk_at "rr"
          refine ⟨rfl, ?_⟩
          walk_at "rr"
          refine ⟨d, c, _, 2, rfl, D8, by omega, by decide, by decide, fun r3 H10 r30 r31 D10 x10 => ?_⟩
          have hD10 := x10.2 _ _ D9n hD
          walk_at "rr"
          refine k_iteD (fun _ => ?_) fun _ => ?_
          · walk_at "rr"
            refine ⟨_, hD10, k_szL (by rw [List.length_map]; omega), gs ++ [z], by rw [upd_same, List.map_append]; rfl, ?_, (D10.offL D9n).mono (by omega), ?_⟩
            · rw [tk]
              exact List.Sublist.append sb (List.Sublist.refl _)
            · exact ext_off (x8.trans x10) hD9
          · exact ⟨gs, hD10, by rw [tk]; exact sb.trans (List.sublist_append_left _ _), D10.mono (by omega), x8.trans x10⟩
        · obtain ⟨gs, hD, sb, D8, x8⟩ := h
          rw [List.length_map, List.take_length] at sb
          rw [List.length_map] at D8
          walk_at "rr"
          refine ⟨D9, _, rfl, .inl ⟨SqL.of hD, fun g hg => ?_⟩⟩
          walk_at "rr"
          have hM8 := x8.2 _ _ m0n M6
          have gm : g ≠ m0 := fun z => by
            rw [z, hM8] at hg
            cases hg
          refine k_app (Same.upd hg _ _ hM8) (k_szL (by rw [List.length_map]; omega)) ?_
          walk_at "rr"
          have g1 : ∀ a xs, H8 a = some (.tup xs) → (upd (upd H8 g (.tup (gs.map V.str))) m0 (.lst (ms.map (fun m => V.ref m.1) ++ [V.ref g]))) a = some (.tup xs) := fun a xs e => by
            have n1 : a ≠ m0 := fun z => by
              rw [z, hM8] at e
              cases e
            exact (upd_ne n1).trans (Same.upd hg _ _ e)
          refine ⟨_, ms ++ [(g, gs)], rfl, ?_, ?_, by rw [List.length_append, lm]; rfl, ?_, ?_, ?_⟩
          · exact (upd_ne npm).trans (Same.upd hg _ _ (x8.2 _ _ n0 p6))
          · rw [upd_same, List.map_append]
            rfl
          · intro m hm
            rcases List.mem_append.mp hm with hm | hm
            · exact ⟨g1 _ _ (x8.1 _ _ (a6 m hm).1), (a6 m hm).2⟩
            · obtain rfl := List.mem_singleton.mp hm
              refine ⟨(upd_ne gm).trans upd_same, fun z hz => pm.mem_iff.mp (sb.subset hz), ?_⟩
              exact (ris2 hs (pm.nodup_iff.mpr nd4)).sublist sb
          · exact ((D8.new hg).offL m0n).mono (by omega)
          · exact ext_off ((x6.trans x8).trans (ext_new hg)) m0f
      · obtain ⟨o4, ms, rfl, h5, hM, lm, am, D5, x5⟩ := h
        walk_at "rr"
        refine ⟨p0, _, rfl, .inl ⟨SqL.of h5, fun g hg => ?_⟩⟩
        match ms, lm, hM, am with
        | [m1, m2], _, hM, am =>
          have hM1 : (upd H5 g (.tup (cs.map V.str))) m0 = some (.lst [V.ref m1.1, V.ref m2.1]) := Same.upd hg _ _ hM
          have g5 : (upd H5 g (.tup (cs.map V.str))) g = some (.tup (cs.map V.str)) := upd_same
          obtain ⟨a1, b1, b2⟩ := am m1 (by simp)
          obtain ⟨a2, b3, b4⟩ := am m2 (by simp)
          have a1' := Same.upd (o := .tup (cs.map V.str)) hg _ _ a1
          have a2' := Same.upd (o := .tup (cs.map V.str)) hg _ _ a2
          have D6 := D5.new (o := .tup (cs.map V.str)) hg
          have x6 := x5.trans (ext_new (o := .tup (cs.map V.str)) hg)
          generalize upd H5 g (.tup (cs.map V.str)) = H6 at hM1 g5 a1' a2' D6 x6 ⊢
          walk_at "rr"
          refine ⟨k_sz rfl, fun a ha => ?_⟩
          exact k a ⟨nm, cs, m1.2, m2.2⟩ _ rfl ⟨hn, l1, l2, nz4, nd4, b1, b2, b3, b4⟩ ⟨g, m1.1, m2.1, upd_same, Same.upd ha _ _ g5, Same.upd ha _ _ a1', Same.upd ha _ _ a2'⟩ ((D6.new ha).mono (by omega)) (x6.trans (ext_new ha))
theorem TAt.ext {M : Addr → Prop} {H H' : Hp} {a : Addr} {t : T} (h : TAt H a t) (s : Ext M H H') : TAt H' a t := by
  obtain ⟨c, i, k, h1, h2, h3, h4⟩ := h
  exact ⟨c, i, k, s.1 _ _ h1, s.1 _ _ h2, s.1 _ _ h3, s.1 _ _ h4⟩
/-- tables at hand -/
structure Tabs (ts : List AT) (H : Hp) : Prop where
  at_ : ∀ x ∈ ts, TAt H x.1 x.2
  ok : ∀ x ∈ ts, x.2.Ok
  nd : (namesOf ts).Nodup
theorem Tabs.ext {M : Addr → Prop} {ts : List AT} {H H' : Hp} (h : Tabs ts H) (s : Ext M H H') : Tabs ts H' := ⟨fun x hx => (h.at_ x hx).ext s, h.ok, h.nd⟩
def spTablesL : Sp := fun vs H Q _ => ∃ (d c : Addr) (b : Int) (many : Nat), vs = [.ref d, .int many] ∧ Deck d c b H ∧ b ≤ 800000 ∧ many ≤ 4 ∧
  ∀ (l : Addr) (ts : List AT) (H' : Hp), ts.length = many → Tabs ts H' → H' l = some (.lst (refsOf ts)) → ¬ Dk d c l → H l = none → Deck d c (b + 150) H' → Ext (Dk d c) H H' → Q (.ref l) H'
theorem ok_tablesL {f : Addr} {fd : FuncData} (F : Fun K "_law_tables" "_law_tables" s_tables f fd)
    (C_names : Cal P w K mg g0 "_law_names" 2 ["_law_deck_here", "_law_many"] spNames) (C_table : Cal P w K mg g0 "_law_table" 3 ["_law_deck_here", "_law_name"] spTableL) : GOk P w K mg g0 CX0 4 f fd ["_law_deck_here", "_law_many"] spTablesL := by
  have nd := sc_tables.nd
  refine okG F sc_tables (fun vs H Q E h => ?_) (fun cdv A up s H vs Q E qt hr h => ?_)
  · obtain ⟨d, c, b, many, rfl, _⟩ := h
    rfl
  · obtain ⟨d, c, b, many, rfl, D, hb, hm, k⟩ := h
    refine ⟨_, (pss_one (ps_ret (pe_lc (own := [("_law_name", 2)]) (g := (gName 2)) (tt := tYes) (te := (tCall _ [] E0 (tCons (tVar 0) (tCons (tVar 2) tNil)))) (by rfl) nd (pi_list (pe_c C_names qt (hr.mono (by decide)) (pa_cons (pv 0) (pa_cons (pv 1) pa_nil)))) (blkOk_by (own := [("_law_name", 2)]) (N := ["_law_deck_here", "_law_many", "_law_name"]) (sc := defScope s_tables) (by decide +kernel)) (fun _ _ _ _ _ => by exact (pg_name (i := 2) nd rfl (Or.inl rfl))) (fun _ _ _ _ _ => by exact pts_nil) (fun _ _ _ _ _ => by exact (pe_c C_table qt (hr.mono (by decide)) (pa_cons (pv 0) (pa_cons (pv 2) pa_nil))))))), ?_⟩
    walk_at "rr"
    refine ⟨d, c, b, many, rfl, D, by omega, hm, fun ln zs H1 lz ndz nz D1 x1 hln nln fln => ?_⟩
    refine ⟨ln, rfl, ⟨_, SqL.of hln⟩, fun D9 hD9 => ?_⟩
    have D9n : ¬ Dk d c D9 := D1.off hD9
    have D9f : H D9 = none := ext_free x1 D9n hD9
    refine lc_it (walk_list (xs := zs.map V.str)) (fun i H' => ∃ ts : List AT, H' D9 = some (.lst (refsOf ts)) ∧ namesOf ts = zs.take i ∧ (∀ x ∈ ts, TAt H' x.1 x.2) ∧ (∀ x ∈ ts, x.2.Ok) ∧ Deck d c (b + 10 + 30 * i) H' ∧ Ext (Dk d c) H H' ∧ StrsAt H' ln zs)
      ⟨[], upd_same, rfl, (fun _ z => by cases z), (fun _ z => by cases z), by simpa using D1.new hD9, x1.trans (ext_new hD9), Same.upd hD9 _ _ hln⟩ (fun i H' _ h => ?_) (fun i x H8 H9 hi h y => ?_) fun H8 h => ?_
    · obtain ⟨_, _, _, _, _, _, _, h⟩ := h
      exact SqL.of h
    · obtain ⟨ts, hD, hts, tat, tok, D8, x8, hln8⟩ := h
      obtain ⟨rfl, y⟩ := y
      have e : (zs.map V.str)[i]? = some x := y
      rw [List.getElem?_map] at e
      obtain ⟨z, hz, rfl⟩ := Option.map_eq_some_iff.mp e
      have hi3 : i < zs.length := (List.getElem?_eq_some_iff.mp hz).1
      have lt : ts.length ≤ 4 := by
        have : (namesOf ts).length = (zs.take i).length := by rw [hts]
        unfold namesOf at this
        rw [List.length_map, List.length_take] at this
        omega
      walk_at "rr"
      refine ⟨rfl, k_yes ?_⟩
      walk_at "rr"
      refine ⟨d, c, _, z, rfl, D8, by omega, nz z (List.mem_of_getElem? hz), fun a t H10 tn tk ta D10 x10 => ?_⟩
      have hD10 := x10.2 _ _ D9n hD
      refine ⟨_, hD10, k_szL (by unfold refsOf; rw [List.length_map]; omega), ts ++ [(a, t)], ?_, ?_, ?_, ?_, (D10.offL D9n).mono (by omega), ext_off (x8.trans x10) D9f, ?_⟩
      · rw [upd_same]
        unfold refsOf
        rw [List.map_append]
        rfl
      · unfold namesOf at hts ⊢
        rw [List.map_append, hts, List.take_add_one, hz]
        show _ ++ [t.nm] = _ ++ [z]
        rw [tn]
      · have sm : Tups H10 (upd H10 D9 (.lst (refsOf ts ++ [V.ref a]))) := tups_upd hD10 fun _ z => by cases z
        have up : ∀ {x : Addr} {u : T}, TAt H10 x u → TAt (upd H10 D9 (.lst (refsOf ts ++ [V.ref a]))) x u := fun {x u} h => by
          obtain ⟨c, i, k, h1, h2, h3, h4⟩ := h
          exact ⟨c, i, k, sm _ _ h1, sm _ _ h2, sm _ _ h3, sm _ _ h4⟩
        intro x hx
        rcases List.mem_append.mp hx with hx | hx
        · exact up ((tat x hx).ext x10)
        · obtain rfl := List.mem_singleton.mp hx
          exact up ta
      · intro x hx
        rcases List.mem_append.mp hx with hx | hx
        · exact tok x hx
        · obtain rfl := List.mem_singleton.mp hx
          exact tk
      · have n1 : ln ≠ D9 := fun z => by
          rw [z, StrsAt, hD9] at hln
          cases hln
        exact (upd_ne n1).trans (x10.2 _ _ nln hln8)
    · obtain ⟨ts, hD, hts, tat, tok, D8, x8, hln8⟩ := h
      rw [List.length_map] at D8
      rw [List.length_map, List.take_length] at hts
      have lt : ts.length = many := by
        have : (namesOf ts).length = zs.length := by rw [hts]
        unfold namesOf at this
        rw [List.length_map] at this
        omega
      exact k D9 ts H8 lt ⟨tat, tok, by rw [hts]; exact ndz⟩ hD D9n D9f (D8.mono (by omega)) x8
end
end K01

set_option Elab.async false
set_option maxRecDepth 100000
set_option maxHeartbeats 4000000
set_option linter.unusedVariables false
namespace K01
open PySem PySem.Spec PyProof.Rows L2 Own StX
-- steps
local macro_rules | `(tactic| walk_at "lk") => `(tactic| first
  | assumption | exact upd_same
  | ((with_reducible refine' lk_new ?e (by assumption)); (case e => walk_at "lk"))
  | ((with_reducible refine' lk_ext (by assumption) ?e); (case e => walk_at "lk"))
  | ((with_reducible refine' lk_same (by assumption) ?e); (case e => walk_at "lk")))
local macro_rules | `(tactic| walk_at "sq") => `(tactic| first | assumption | exact SqL.of (by walk_at "lk") | exact SqT.of (by walk_at "lk"))
local macro_rules | `(tactic| walk_at "r1") => `(tactic| first
  | with_reducible refine k_seq ?_ | with_reducible refine k_asg ?_ | with_reducible refine k_ret ?_ | with_reducible refine k_drop ?_ | with_reducible refine k_next ?_ | with_reducible refine k_ifS ?_
  | ((with_reducible refine' k_var ?e ?_); (case e => exact rfl)) | with_reducible refine k_c ?_ | with_reducible refine k_op ?_ | with_reducible refine k_un ?_ | with_reducible refine k_test ?_ | with_reducible refine k_B ?_
  | with_reducible refine k_and ?_ | with_reducible refine k_or ?_ | with_reducible refine k_not ?_ | with_reducible refine k_andV ?_ | with_reducible refine k_orV ?_ | with_reducible refine k_notV ?_ | with_reducible refine k_if ?_
  | with_reducible refine k_nil ?_ | with_reducible refine k_cons ?_ | with_reducible refine k_tup ?_ | with_reducible refine k_lst ?_ | with_reducible refine k_call ?_ | with_reducible refine k_cb ?_ | with_reducible refine k_ck ?_
  | with_reducible refine k_par ?_ | with_reducible refine k_par1 ?_ | with_reducible refine k_tr ?_ | with_reducible refine k_rI0 ?_ | with_reducible refine k_rU ?_
  | with_reducible refine k_gN ?_ | with_reducible refine k_gS ?_ | with_reducible refine k_gNil ?_ | with_reducible refine k_gCons ?_ | with_reducible refine k_bm0 ?_ | with_reducible refine k_bm ?_
  | with_reducible refine k_for ?_ | with_reducible refine k_iL ?_ | with_reducible refine k_iT ?_ | with_reducible refine k_iR1 ?_ | ((with_reducible refine k_iR1i ?e ?_); (case e => first | decide | exact ⟨by omega, by omega⟩))
  | with_reducible refine k_max ?_ | with_reducible refine k_isB ?_ | with_reducible refine k_sl ?_ | with_reducible refine k_noP ?_ | with_reducible refine k_part ?_ | with_reducible refine k_partI ?_ | with_reducible refine k_revL ?_
  | ((with_reducible refine' k_ixqT ?e ?f ?_); (case e => walk_at "sq"); (case f => first | exact rfl | exact atI_head))
  | ((with_reducible refine' k_ixqL ?e ?f ?_); (case e => walk_at "sq"); (case f => first | exact rfl | exact atI_head))
  | ((with_reducible refine' k_lenL ?e ?_); (case e => walk_at "sq"))
  | ((with_reducible refine' k_lenT ?e ?_); (case e => walk_at "sq"))
  | ((with_reducible refine' k_ixL ?e ?f ?_); (case e => walk_at "sq"); (case f => first | exact rfl | exact atI_head))
  | ((with_reducible refine' k_ixT ?e ?f ?_); (case e => walk_at "sq"); (case f => first | exact rfl | exact atI_head))
  | ((with_reducible refine k_eq ?e ?_); (case e => exact rfl)) | ((with_reducible refine k_ne ?e ?_); (case e => exact rfl))
  | ((with_reducible refine k_rI ?e ?_); (case e => first | assumption | omega | decide | exact ⟨by omega, by omega⟩ | exact .inl ⟨by omega, by omega⟩ | exact .inr ⟨by omega, by omega⟩)))
local macro_rules | `(tactic| walk_at "rd") => `(tactic| repeat walk_at "r1")
local macro_rules | `(tactic| walk_at "r2") => `(tactic| first
  | walk_at "r1"
  | with_reducible refine k_ifTt ?_ | with_reducible refine k_ifFf ?_ | with_reducible refine k_ifNt ?_ | with_reducible refine k_ifNf ?_
  | with_reducible refine k_makeR ?_ | with_reducible refine k_tJ ?_ | with_reducible refine k_tJc ?_ | with_reducible refine k_tJn ?_ | with_reducible refine k_fmt ?_ | with_reducible refine k_lc ?_ | with_reducible refine k_din ?_ | with_reducible refine k_fld ?_ | with_reducible refine k_dget ?_
  | with_reducible refine k_dput ?_
  | with_reducible refine k_isNv ?_
  | with_reducible refine k_notNv ?_
  | with_reducible refine k_str ?_
  | with_reducible refine k_enumT ?_
  | with_reducible refine k_zipA ?_
  | with_reducible refine k_chain ?_
  | ((with_reducible refine' k_dgS ?e dkv_cells ?_); (case e => walk_at "lk"))
  | ((with_reducible refine' k_dgS ?e dkv_mixed ?_); (case e => walk_at "lk"))
  | ((with_reducible refine' k_dgS ?e dkv_turn ?_); (case e => walk_at "lk")))
local macro_rules | `(tactic| walk_at "rr") => `(tactic| repeat walk_at "r2")
-- steps end
def spMk (C N : Addr) : Sp := fun vs H Q E => ∃ ws rest, vs = ws ++ rest ∧ ws.length = 1 ∧ rest.length ≤ sizeLine ∧ ∀ p, H p = Option.none → spInit C N (ws ++ [V.ref p]) (upd H p (.tup rest)) Q E
theorem Tabl.same {H H' : Hp} {xs : List V} {ds : List PyData} {ts : List AT} (t : Tabl H xs ds ts) (s : Same H H') : Tabl H' xs ds ts := ⟨t.xs, t.ds, fun x hx => ⟨(t.ok x hx).1.same s, (t.ok x hx).2⟩⟩
theorem Tabl.uniq {H H' : Hp} {xs : List V} {ds : List PyData} {ts : List AT} (t : Tabl H xs ds ts) (q : DqAll H' xs ds) (s : Same H' H) : Tabl H' xs ds ts := by
  obtain ⟨us, u⟩ := tabl_of q fun d hd => by
    rw [t.ds] at hd
    obtain ⟨x, hx, rfl⟩ := List.mem_map.mp hd
    exact ⟨x.2, (t.ok x hx).2, rfl⟩
  have e : us = ts := by
    have h1 : refsOf us = refsOf ts := u.xs.symm.trans t.xs
    have h2 : us.map (fun x => x.2.data) = ts.map (fun x => x.2.data) := u.ds.symm.trans t.ds
    clear t u q
    unfold refsOf at h1
    induction us generalizing ts with
    | nil =>
      cases ts with
      | nil => rfl
      | cons y ts => cases h1
    | cons x us ih =>
      cases ts with
      | nil => cases h1
      | cons y ts =>
        rw [List.map_cons, List.map_cons] at h1 h2
        injection h1 with a1 b1
        injection h2 with a2 b2
        injection a1 with a1
        have a3 : x.2 = y.2 := by
          have := eqv_T x.2 y.2
          rw [a2, eqv_T] at this
          exact of_decide_eq_true (by rw [← this]; exact decide_eq_true rfl)
        obtain ⟨x1, x2⟩ := x
        obtain ⟨y1, y2⟩ := y
        obtain rfl : x1 = y1 := a1
        obtain rfl : x2 = y2 := a3
        rw [ih b1 b2]
  rw [← e]
  exact u
section
variable {P : Program} {w : World} {K : PySem.W.Frag} {mg : Str → Option Value} {g0 : Heap} {C N : Addr}
abbrev s_schema : Stmt := top 29
theorem sc_schema : FnScope ["_law_some"] ["_law_some"] (defScope s_schema) :=
  ⟨rfl, rfl, rfl, by decide +kernel, rfl, by decide +kernel, by decide +kernel⟩
theorem mk_sch {H1 : Hp} {xs : List V} {ds : List PyData} {Q : VK} {E : XK} (hq : DqAll H1 xs ds) (ho : ∀ d ∈ ds, Ok1 d) (hl : ds.length ≤ 5)
    (k1 : (∀ i, ¬ Bad ds i) → ∀ ts zs p H', Tabl H1 xs ds ts → SchAt C H' p ts zs → Same H1 H' → Q (.ref p) H')
    (k2 : ∀ i, Bad ds i → (∀ j, j < i → ¬ Bad ds j) → ∀ d H', Same H1 H' → H1 d = none → H' d = some (.xd [(("part" : Str), V.int i)]) → E (.ref N) (some d) H') :
    ∀ (x dx : Addr), H1 x = none → H1 dx = none → dx ≠ x → spMk C N (V.ref x :: xs) (upd (upd H1 dx (HO.own x)) x (HO.ins C dx [])) (fun v H2 => v = V.non ∧ Q (V.ref x) H2) E := by
  intro x dx hx hdx ne
  have s0 : Same H1 (upd (upd H1 dx (HO.own x)) x (HO.ins C dx [])) := (Same.upd hdx).trans (Same.upd ((upd_ne fun z => ne z.symm).trans hx))
  have lx := hq.len
  refine ⟨[.ref x], xs, rfl, rfl, Nat.le_trans (by rw [lx]; exact hl) (by decide), fun u hu => ?_⟩
  have hxx : (upd (upd H1 dx (HO.own x)) x (HO.ins C dx [])) x = some (.ins C dx []) := upd_same
  generalize upd (upd H1 dx (HO.own x)) x (HO.ins C dx []) = H2 at s0 hu hxx ⊢
  have s1 : Same H2 (upd H2 u (.tup xs)) := Same.upd hu
  refine ⟨x, dx, u, xs, ds, rfl, s1 _ _ hxx, upd_same, (hq.same s0).same s1, ho, hl, fun good ts zs H' tb S ke => ⟨rfl, ?_⟩, fun i b f d H' s' hd hx2 => ?_⟩
  · exact k1 good ts zs x H' (tb.uniq hq (s0.trans s1)) S fun a o e => ke a o (fun z => by rw [z, hx] at e; cases e) (s1 _ _ (s0 _ _ e))
  · exact k2 i b f d H' ((s0.trans s1).trans s') (same_free s0 (same_free s1 hd)) hx2
def spSchemaL (C N : Addr) : Sp := fun vs H Q E => ∃ (l : Addr) (xs : List V) (ds : List PyData), vs = [.ref l] ∧ H l = some (.lst xs) ∧ DqAll H xs ds ∧ (∀ d ∈ ds, Ok1 d) ∧ ds.length ≤ 5 ∧
  ((∀ i, ¬ Bad ds i) → ∀ ts zs p H', Tabl H xs ds ts → SchAt C H' p ts zs → Same H H' → Q (.ref p) H') ∧
  (∀ i, Bad ds i → (∀ j, j < i → ¬ Bad ds j) → ∀ d H', Same H H' → H d = none → H' d = some (.xd [(("part" : Str), V.int i)]) → E (.ref N) (some d) H')
theorem ok_schemaL {f fi : Addr} {fd : FuncData} (F : Fun K "_law_schema" "_law_schema" s_schema f fd) (z_len : mg "len" = none) (g_Schema : mg "Schema" = some (.ref C)) (S_mk : Mk K C fi) (S_init : FnR P w K mg g0 (L2.CX P w) 4 fi (spMk C N)) :
    FnOk P w K mg g0 (L2.CX P w) 6 f fd ["_law_some"] (spSchemaL C N) := by
  have nd := sc_schema.nd
  refine F.okX sc_schema (fun vs H Q E h => ?_) (fun cdv A up s H vs Q E hr h => ?_)
  · obtain ⟨l, xs, ds, rfl, _⟩ := h
    rfl
  · obtain ⟨l, xs, ds, rfl, hl, hq, ho, lt, k1, k2⟩ := h
    have lx := hq.len
    refine ⟨_, (pss_cons (ps_if (pt_cmpR op_lt (pe_callB (c_lenK (K := K) rfl) (by rfl) z_len (by decide +kernel) (pa_cons (pv 0) pa_nil)) pe_int (nomark _)) (pss_one (ps_ret (pe_ifExp (pt_cmpR (op_neL0 hr.units) (pv 0) (pe_lst pa_nil) (nomark _)) (pe_makeR S_mk S_init (hr.mono (by decide)) (by rfl) g_Schema (passes_call (W := fun cls d _ H => E cls d H) (takes_of rfl rfl rfl rfl) (fun _ _ _ _ h => h)) (pa_cons (pe_ix ix_seq (pv 0) pe_int (fun _ _ => rfl)) pa_nil)) (pe_makeR0 S_mk S_init (hr.mono (by decide)) (by rfl) g_Schema (passes_call (W := fun cls d _ H => E cls d H) (takes_of rfl rfl rfl rfl) (fun _ _ _ _ h => h)))))) pss_nil)
        (pss_cons (ps_if (pt_cmpR op_eq (pe_callB (c_lenK (K := K) rfl) (by rfl) z_len (by decide +kernel) (pa_cons (pv 0) pa_nil)) pe_int (nomark _)) (pss_one (ps_ret (pe_makeR S_mk S_init (hr.mono (by decide)) (by rfl) g_Schema (passes_call (W := fun cls d _ H => E cls d H) (takes_of rfl rfl rfl rfl) (fun _ _ _ _ h => h)) (pa_cons (pe_ix ix_seq (pv 0) pe_int (fun _ _ => rfl)) (pa_cons (pe_ix ix_seq (pv 0) pe_int (fun _ _ => rfl)) pa_nil))))) pss_nil)
        (pss_cons (ps_if (pt_cmpR op_eq (pe_callB (c_lenK (K := K) rfl) (by rfl) z_len (by decide +kernel) (pa_cons (pv 0) pa_nil)) pe_int (nomark _)) (pss_one (ps_ret (pe_makeR S_mk S_init (hr.mono (by decide)) (by rfl) g_Schema (passes_call (W := fun cls d _ H => E cls d H) (takes_of rfl rfl rfl rfl) (fun _ _ _ _ h => h)) (pa_cons (pe_ix ix_seq (pv 0) pe_int (fun _ _ => rfl)) (pa_cons (pe_ix ix_seq (pv 0) pe_int (fun _ _ => rfl)) (pa_cons (pe_ix ix_seq (pv 0) pe_int (fun _ _ => rfl)) pa_nil)))))) pss_nil)
        (pss_cons (ps_if (pt_cmpR op_eq (pe_callB (c_lenK (K := K) rfl) (by rfl) z_len (by decide +kernel) (pa_cons (pv 0) pa_nil)) pe_int (nomark _)) (pss_one (ps_ret (pe_makeR S_mk S_init (hr.mono (by decide)) (by rfl) g_Schema (passes_call (W := fun cls d _ H => E cls d H) (takes_of rfl rfl rfl rfl) (fun _ _ _ _ h => h)) (pa_cons (pe_ix ix_seq (pv 0) pe_int (fun _ _ => rfl)) (pa_cons (pe_ix ix_seq (pv 0) pe_int (fun _ _ => rfl)) (pa_cons (pe_ix ix_seq (pv 0) pe_int (fun _ _ => rfl)) (pa_cons (pe_ix ix_seq (pv 0) pe_int (fun _ _ => rfl)) pa_nil))))))) pss_nil)
        (pss_one (ps_ret (pe_makeR S_mk S_init (hr.mono (by decide)) (by rfl) g_Schema (passes_call (W := fun cls d _ H => E cls d H) (takes_of rfl rfl rfl rfl) (fun _ _ _ _ h => h)) (pa_cons (pe_ix ix_seq (pv 0) pe_int (fun _ _ => rfl)) (pa_cons (pe_ix ix_seq (pv 0) pe_int (fun _ _ => rfl)) (pa_cons (pe_ix ix_seq (pv 0) pe_int (fun _ _ => rfl)) (pa_cons (pe_ix ix_seq (pv 0) pe_int (fun _ _ => rfl)) (pa_cons (pe_ix ix_seq (pv 0) pe_int (fun _ _ => rfl)) pa_nil)))))))))))), ?_⟩
    match xs, hl, hq, lx, k1, k2 with
    | [], hl, hq, lx, k1, k2 =>
      walk_at "rr"
      refine k_sure (by show ((0 : Nat) : Int) < 2; decide) ?_
      walk_at "rr"
      refine ⟨k_sz rfl, fun p hp => ?_⟩
      walk_at "rr"
      refine ⟨l, p, [], rfl, rfl, SqL.of (Same.upd hp _ _ hl), SqL.of upd_same, ?_⟩
      walk_at "rr"
      have s0 : Same H (upd H p (.lst [])) := Same.upd hp
      exact mk_sch (hq.same s0) ho lt (fun g ts zs q H' tb S s1 => k1 g ts zs q H' (tb.uniq hq s0) S (s0.trans s1)) fun i b f d H' s1 hd hx => k2 i b f d H' (s0.trans s1) (same_free s0 hd) hx
    | [a], hl, hq, lx, k1, k2 =>
      walk_at "rr"
      refine k_sure (by show ((1 : Nat) : Int) < 2; decide) ?_
      walk_at "rr"
      refine ⟨k_sz rfl, fun p hp => ?_⟩
      walk_at "rr"
      refine ⟨l, p, [a], rfl, rfl, SqL.of (Same.upd hp _ _ hl), SqL.of upd_same, ?_⟩
      refine ⟨true, rfl, k_ifTt ?_⟩
      walk_at "rr"
      have s0 : Same H (upd H p (.lst [])) := Same.upd hp
      exact mk_sch (hq.same s0) ho lt (fun g ts zs q H' tb S s1 => k1 g ts zs q H' (tb.uniq hq s0) S (s0.trans s1)) fun i b f d H' s1 hd hx => k2 i b f d H' (s0.trans s1) (same_free s0 hd) hx
    | [a, b], hl, hq, lx, k1, k2 =>
      walk_at "rr"
      refine k_not1 (by show ¬ ((2 : Nat) : Int) < 2; decide) ?_
      walk_at "rr"
      refine k_sure rfl ?_
      walk_at "rr"
      exact mk_sch hq ho lt k1 k2
    | [a, b, c], hl, hq, lx, k1, k2 =>
      walk_at "rr"
      refine k_not1 (by show ¬ ((3 : Nat) : Int) < 2; decide) ?_
      walk_at "rr"
      refine k_not1 (by show ¬ V.int ((3 : Nat) : Int) = V.int 2; decide) ?_
      walk_at "rr"
      refine k_sure rfl ?_
      walk_at "rr"
      exact mk_sch hq ho lt k1 k2
    | [a, b, c, e], hl, hq, lx, k1, k2 =>
      walk_at "rr"
      refine k_not1 (by show ¬ ((4 : Nat) : Int) < 2; decide) ?_
      walk_at "rr"
      refine k_not1 (by show ¬ V.int ((4 : Nat) : Int) = V.int 2; decide) ?_
      walk_at "rr"
      refine k_not1 (by show ¬ V.int ((4 : Nat) : Int) = V.int 3; decide) ?_
      walk_at "rr"
      refine k_sure rfl ?_
      walk_at "rr"
      exact mk_sch hq ho lt k1 k2
    | [a, b, c, e, g], hl, hq, lx, k1, k2 =>
      walk_at "rr"
      refine k_not1 (by show ¬ ((5 : Nat) : Int) < 2; decide) ?_
      walk_at "rr"
      refine k_not1 (by show ¬ V.int ((5 : Nat) : Int) = V.int 2; decide) ?_
      walk_at "rr"
      refine k_not1 (by show ¬ V.int ((5 : Nat) : Int) = V.int 3; decide) ?_
      walk_at "rr"
      refine k_not1 (by show ¬ V.int ((5 : Nat) : Int) = V.int 4; decide) ?_
      walk_at "rr"
      exact mk_sch hq ho lt k1 k2
    | a :: b :: c :: e :: g :: y :: r, _, _, lx, _, _ =>
      simp only [List.length_cons] at lx
      omega
end
end K01

set_option Elab.async false
set_option maxRecDepth 100000
set_option maxHeartbeats 4000000
set_option linter.unusedVariables false
namespace K01
open PySem PySem.Spec PyProof.Rows L2 Own StX
-- steps
local macro_rules | `(tactic| walk_at "lk") => `(tactic| first
  | assumption | exact upd_same
  | ((with_reducible refine' lk_new ?e (by assumption)); (case e => walk_at "lk"))
  | ((with_reducible refine' lk_ext (by assumption) ?e); (case e => walk_at "lk"))
  | ((with_reducible refine' lk_same (by assumption) ?e); (case e => walk_at "lk")))
local macro_rules | `(tactic| walk_at "sq") => `(tactic| first | assumption | exact SqL.of (by walk_at "lk") | exact SqT.of (by walk_at "lk"))
local macro_rules | `(tactic| walk_at "r1") => `(tactic| first
  | with_reducible refine k_seq ?_ | with_reducible refine k_asg ?_ | with_reducible refine k_ret ?_ | with_reducible refine k_drop ?_ | with_reducible refine k_next ?_ | with_reducible refine k_ifS ?_
  | ((with_reducible refine' k_var ?e ?_); (case e => exact rfl)) | with_reducible refine k_c ?_ | with_reducible refine k_op ?_ | with_reducible refine k_un ?_ | with_reducible refine k_test ?_ | with_reducible refine k_B ?_
  | with_reducible refine k_and ?_ | with_reducible refine k_or ?_ | with_reducible refine k_not ?_ | with_reducible refine k_andV ?_ | with_reducible refine k_orV ?_ | with_reducible refine k_notV ?_ | with_reducible refine k_if ?_
  | with_reducible refine k_nil ?_ | with_reducible refine k_cons ?_ | with_reducible refine k_tup ?_ | with_reducible refine k_lst ?_ | with_reducible refine k_call ?_ | with_reducible refine k_cb ?_ | with_reducible refine k_ck ?_
  | with_reducible refine k_par ?_ | with_reducible refine k_par1 ?_ | with_reducible refine k_tr ?_ | with_reducible refine k_rI0 ?_ | with_reducible refine k_rU ?_
  | with_reducible refine k_gN ?_ | with_reducible refine k_gS ?_ | with_reducible refine k_gNil ?_ | with_reducible refine k_gCons ?_ | with_reducible refine k_bm0 ?_ | with_reducible refine k_bm ?_
  | with_reducible refine k_for ?_ | with_reducible refine k_iL ?_ | with_reducible refine k_iT ?_ | with_reducible refine k_iR1 ?_ | ((with_reducible refine k_iR1i ?e ?_); (case e => first | decide | exact ⟨by omega, by omega⟩))
  | with_reducible refine k_max ?_ | with_reducible refine k_isB ?_ | with_reducible refine k_sl ?_ | with_reducible refine k_noP ?_ | with_reducible refine k_part ?_ | with_reducible refine k_partI ?_ | with_reducible refine k_revL ?_
  | ((with_reducible refine' k_ixqT ?e ?f ?_); (case e => walk_at "sq"); (case f => first | exact rfl | exact atI_head))
  | ((with_reducible refine' k_ixqL ?e ?f ?_); (case e => walk_at "sq"); (case f => first | exact rfl | exact atI_head))
  | ((with_reducible refine' k_lenL ?e ?_); (case e => walk_at "sq"))
  | ((with_reducible refine' k_lenT ?e ?_); (case e => walk_at "sq"))
  | ((with_reducible refine' k_ixL ?e ?f ?_); (case e => walk_at "sq"); (case f => first | exact rfl | exact atI_head))
  | ((with_reducible refine' k_ixT ?e ?f ?_); (case e => walk_at "sq"); (case f => first | exact rfl | exact atI_head))
  | ((with_reducible refine k_eq ?e ?_); (case e => exact rfl)) | ((with_reducible refine k_ne ?e ?_); (case e => exact rfl))
  | ((with_reducible refine k_rI ?e ?_); (case e => first | assumption | omega | decide | exact ⟨by omega, by omega⟩ | exact .inl ⟨by omega, by omega⟩ | exact .inr ⟨by omega, by omega⟩)))
local macro_rules | `(tactic| walk_at "rd") => `(tactic| repeat walk_at "r1")
local macro_rules | `(tactic| walk_at "r2") => `(tactic| first
  | walk_at "r1"
  | with_reducible refine k_ifTt ?_ | with_reducible refine k_ifFf ?_ | with_reducible refine k_ifNt ?_ | with_reducible refine k_ifNf ?_
  | with_reducible refine k_makeR ?_ | with_reducible refine k_tJ ?_ | with_reducible refine k_tJc ?_ | with_reducible refine k_tJn ?_ | with_reducible refine k_fmt ?_ | with_reducible refine k_lc ?_ | with_reducible refine k_din ?_ | with_reducible refine k_fld ?_ | with_reducible refine k_dget ?_
  | with_reducible refine k_dput ?_
  | with_reducible refine k_isNv ?_
  | with_reducible refine k_notNv ?_
  | with_reducible refine k_str ?_
  | with_reducible refine k_enumT ?_
  | with_reducible refine k_zipA ?_
  | with_reducible refine k_chain ?_
  | ((with_reducible refine' k_dgS ?e dkv_cells ?_); (case e => walk_at "lk"))
  | ((with_reducible refine' k_dgS ?e dkv_mixed ?_); (case e => walk_at "lk"))
  | ((with_reducible refine' k_dgS ?e dkv_turn ?_); (case e => walk_at "lk")))
local macro_rules | `(tactic| walk_at "rr") => `(tactic| repeat walk_at "r2")
-- steps end
theorem PE_imp {X : Cx} {e : Expr} {t t' : TE} (p : PE X e t) (h : ∀ σ H Q, t' σ H Q → t σ H Q) : PE X e t' := ⟨fun pins s σ H Q I q => p.run pins s σ H Q I (h σ H Q q)⟩
theorem PSs_imp {X : Cx} {ss : List Stmt} {t t' : TS} (p : PSs X ss t) (h : ∀ D σ H, t' D σ H → t D σ H) : PSs X ss t' := ⟨fun pins s σ H D I q => p.run pins s σ H D I (h D σ H q)⟩
theorem nof_part (y : V) : ([(("part" : Str), y)] : List (Str × V)).lookup (Str.ofString "part") = some y := by
  have h2 : ((Str.ofString "part") == Str.ofString "part") = true := by decide +kernel
  simp only [List.lookup, h2]
theorem k_callS {sp : Sp} {E : L2.St → XK} {t : TA} {σ : L2.St} {H : Hp} {Q : VK} (h : t σ H fun vs H1 => sp vs H1 Q (E σ)) : L2.tCallS sp E t σ H Q := h
structure RefB (P : Program) (w : World) (K : PySem.W.Frag) (mg : Str → Option Value) (g0 : Heap) (C N : Addr) : Prop where
  gN : mg "InvalidSchema" = some (.ref N)
  self : PySem.W.exmOne K (.ref N) (.ref N) = some true
  xf : XfC K N
  n1 : PySem.W.findIn K (.ref N) "part" = some none
  tx : Txt K C
  pR : ∃ p g fd, PropOf K C "tables" p g ∧ FnOk P w K mg g0 CX0 1 g fd ["self"] (spTables C) ∧ Binds K fd ["self"] []
  rd : ∃ (f : Addr) (fd : FuncData), FnOk P w K mg g0 (L2.CX P w) 6 f fd ["_law_some"] (spSchemaL C N) ∧ Binds K fd ["_law_some"] [] ∧ mg "_law_schema" = some (.ref f) ∧ PySem.W.keepIn K (.ref f) = true
section
variable {P : Program} {w : World} {K : PySem.W.Frag} {mg : Str → Option Value} {g0 : Heap} {C N : Addr}
abbrev s_heard : Stmt := top 36
theorem sc_heard : FnScope ["_law_some", "_law_found", "e"] ["_law_some"] (defScope s_heard) :=
  ⟨rfl, rfl, rfl, by decide +kernel, rfl, by decide +kernel, by decide +kernel⟩
/-- what is heard -/
def Made (H : Hp) (xs : List V) (ds : List PyData) (r : Addr) (H' : Hp) : Prop := ∃ (t : Addr) (ts zs : List AT), Tabl H xs ds ts ∧ zs.Perm ts ∧ (namesOf zs).Pairwise sLt ∧ H' r = some (.tup [.str "made", .ref t]) ∧ H' t = some (.tup (refsOf zs)) ∧ ∀ x ∈ zs, TAt H' x.1 x.2 ∧ x.2.Ok
def tHB (N : Addr) : WX → TS := fun W D σ H => ∃ (l : Addr) (xs : List V) (ds : List PyData) (o : V), σ = [some (.ref l), some o, none] ∧ H l = some (.lst xs) ∧ DqAll H xs ds ∧ (∀ d ∈ ds, Ok1 d) ∧ ds.length ≤ 5 ∧
  ((∀ i, ¬ Bad ds i) → ∀ r H', Same H H' → Made H xs ds r H' → D.nx [some (.ref l), some (.ref r), none] H') ∧
  (∀ i, Bad ds i → (∀ j, j < i → ¬ Bad ds j) → ∀ d H', Same H H' → H d = none → H' d = some (.xd [(("part" : Str), V.int i)]) → W (.ref N) (some d) σ H')
def tHS (N : Addr) : Addr → Value → Option Addr → TS := fun a cls d D σ H => ∃ (z : V) (o : V) (dd : Addr) (i : Nat), σ = [some z, some o, some (.ref a)] ∧ cls = .ref N ∧ d = some dd ∧ H dd = some (.xd [(("part" : Str), V.int i)]) ∧
  ∀ r, H r = none → D.nx [some z, some (.ref r), some (.ref a)] (upd H r (.tup [.str "index", .int i]))
def spHeard : Sp := fun vs H Q _ => ∃ (l : Addr) (xs : List V) (ds : List PyData), vs = [.ref l] ∧ H l = some (.lst xs) ∧ DqAll H xs ds ∧ (∀ d ∈ ds, Ok1 d) ∧ ds.length ≤ 5 ∧
  ((∀ i, ¬ Bad ds i) → ∀ r H', Same H H' → Made H xs ds r H' → Q (.ref r) H') ∧
  (∀ i, Bad ds i → (∀ j, j < i → ¬ Bad ds j) → ∀ r H', Same H H' → H' r = some (.tup [.str "index", .int i]) → Q (.ref r) H')
theorem Made.same {H H' H'' : Hp} {xs : List V} {ds : List PyData} {r : Addr} (m : Made H xs ds r H') (q : DqAll H'' xs ds) (s : Same H'' H) : Made H'' xs ds r H' := by
  obtain ⟨t, ts, zs, tb, r⟩ := m
  exact ⟨t, ts, zs, tb.uniq q s, r⟩
theorem ok_heard {f : Addr} {fd : FuncData} (F : Fun K "_law_heard" "_law_heard" s_heard f fd) (B : RefB P w K mg g0 C N) : GOk P w K mg g0 CX0 7 f fd ["_law_some"] spHeard := by
  have nd := sc_heard.nd
  obtain ⟨rp, rg, rf, pR, FR, bR⟩ := B.pR
  obtain ⟨fS, fdS, FS, bS, gS, kS⟩ := B.rd
  refine okG F sc_heard (fun vs H Q E h => ?_) (fun cdv A up s H vs Q E qt hr h => ?_)
  · obtain ⟨l, xs, ds, rfl, _⟩ := h
    rfl
  · obtain ⟨l, xs, ds, rfl, hl, hq, ho, lt, k1, k2⟩ := h
    refine ⟨_, pss_cons (ps_set (i := 1) nd rfl (.inl rfl) (pe_tup (pa_cons pe_str pa_nil)))
      (pss_cons (ps_try_as (i := 2) (tb := tHB N) (ts := tHS N) (Wout := fun _ _ _ _ => False) rfl rfl nd rfl rfl ⟨rfl, by decide, Or.inl B.gN⟩ takes0
        (fun W pn xe tk _ => PSs_imp (pss_one (ps_set (i := 1) nd rfl (.inl rfl) (pe_tup (pa_cons pe_str (pa_cons (pe_prop (pe_callS (E := fun σ => WE W σ) FS (hr.mono (by decide)) (by rfl) gS kS bS (fun σ => passAt tk σ) (pa_cons (pv 0) pa_nil)) B.tx.cl pR FR (hr.mono (by decide)) bR .nil pass0 rfl) pa_nil))))) (fun D σ H h => by
            obtain ⟨l, xs, ds, o, rfl, hl, hq, ho, lt, k1, k2⟩ := h
            walk_at "rr"
            refine k_callS ?_
            walk_at "rr"
            refine ⟨l, xs, ds, rfl, hl, hq, ho, lt, fun good ts zs p H' tb S s1 => ?_, fun i b f d H' s1 h0 hd => ?_⟩
            · obtain ⟨dx, d, t, h1, h2, h3⟩ := id S.ex
              refine ⟨p, dx, _, rfl, h1, p, ts, zs, rfl, S, fun tt htt => ?_⟩
              walk_at "rr"
              refine ⟨k_sz rfl, fun r hr => ?_⟩
              walk_at "rr"
              exact k1 good r _ (s1.trans (Same.upd hr)) ⟨tt, ts, zs, tb, S.perm, S.asc, upd_same, Same.upd hr _ _ htt, fun x hx => ⟨(S.ok x (S.perm.mem_iff.mp hx)).1.same (Same.upd hr), (S.ok x (S.perm.mem_iff.mp hx)).2⟩⟩
            · exact k2 i b f d H' s1 h0 hd))
        (fun a oe cls d pn hz hf => PSs_imp (pss_one (ps_set (i := 1) nd rfl (.inl rfl) (pe_tup (pa_cons pe_str (pa_cons (pe_xf B.xf B.n1 hz hf (pv 2)) pa_nil))))) (fun D σ H h => by
            obtain ⟨z, o, dd, i, rfl, rfl, rfl, hd, k⟩ := h
            walk_at "rr"
            refine ⟨_, rfl, rfl, rfl, dd, _, V.int i, rfl, hd, nof_part _, ?_⟩
            walk_at "rr"
            refine ⟨k_sz rfl, fun r hr => ?_⟩
            walk_at "rr"
            exact k r hr)))
      (pss_one (ps_ret (pv 1)))), ?_⟩
    walk_at "rr"
    refine ⟨k_sz rfl, fun o ho2 => ?_⟩
    walk_at "rr"
    have s0 := Same.upd (o := .tup [V.str "odd"]) ho2
    refine ⟨l, xs, ds, _, rfl, s0 _ _ hl, hq.same s0, ho, lt, fun good r H' s1 m => ?_, fun i b f dd H' s1 h0 hd => ?_⟩
    · walk_at "rr"
      exact k1 good r H' (s0.trans s1) (m.same hq s0)
    · refine ⟨true, B.self, fun _ a ha => ?_, fun z => by cases z⟩
      refine ⟨_, _, dd, i, rfl, rfl, rfl, hd, fun r hr2 => ?_⟩
      walk_at "rr"
      exact k2 i b f r _ ((s0.trans s1).trans (Same.upd hr2)) upd_same
end
end K01

set_option Elab.async false
set_option maxRecDepth 100000
set_option maxHeartbeats 4000000
set_option linter.unusedVariables false
namespace K01
open PySem PySem.Spec PyProof.Rows L2 Own StX
-- steps
local macro_rules | `(tactic| walk_at "lk") => `(tactic| first
  | assumption | exact upd_same
  | ((with_reducible refine' lk_new ?e (by assumption)); (case e => walk_at "lk"))
  | ((with_reducible refine' lk_ext (by assumption) ?e); (case e => walk_at "lk"))
  | ((with_reducible refine' lk_same (by assumption) ?e); (case e => walk_at "lk")))
local macro_rules | `(tactic| walk_at "sq") => `(tactic| first | assumption | exact SqL.of (by walk_at "lk") | exact SqT.of (by walk_at "lk"))
local macro_rules | `(tactic| walk_at "r1") => `(tactic| first
  | with_reducible refine k_seq ?_ | with_reducible refine k_asg ?_ | with_reducible refine k_ret ?_ | with_reducible refine k_drop ?_ | with_reducible refine k_next ?_ | with_reducible refine k_ifS ?_
  | ((with_reducible refine' k_var ?e ?_); (case e => exact rfl)) | with_reducible refine k_c ?_ | with_reducible refine k_op ?_ | with_reducible refine k_un ?_ | with_reducible refine k_test ?_ | with_reducible refine k_B ?_
  | with_reducible refine k_and ?_ | with_reducible refine k_or ?_ | with_reducible refine k_not ?_ | with_reducible refine k_andV ?_ | with_reducible refine k_orV ?_ | with_reducible refine k_notV ?_ | with_reducible refine k_if ?_
  | with_reducible refine k_nil ?_ | with_reducible refine k_cons ?_ | with_reducible refine k_tup ?_ | with_reducible refine k_lst ?_ | with_reducible refine k_call ?_ | with_reducible refine k_cb ?_ | with_reducible refine k_ck ?_
  | with_reducible refine k_par ?_ | with_reducible refine k_par1 ?_ | with_reducible refine k_tr ?_ | with_reducible refine k_rI0 ?_ | with_reducible refine k_rU ?_
  | with_reducible refine k_gN ?_ | with_reducible refine k_gS ?_ | with_reducible refine k_gNil ?_ | with_reducible refine k_gCons ?_ | with_reducible refine k_bm0 ?_ | with_reducible refine k_bm ?_
  | with_reducible refine k_for ?_ | with_reducible refine k_iL ?_ | with_reducible refine k_iT ?_ | with_reducible refine k_iR1 ?_ | ((with_reducible refine k_iR1i ?e ?_); (case e => first | decide | exact ⟨by omega, by omega⟩))
  | with_reducible refine k_max ?_ | with_reducible refine k_isB ?_ | with_reducible refine k_sl ?_ | with_reducible refine k_noP ?_ | with_reducible refine k_part ?_ | with_reducible refine k_partI ?_ | with_reducible refine k_revL ?_
  | ((with_reducible refine' k_ixqT ?e ?f ?_); (case e => walk_at "sq"); (case f => first | exact rfl | exact atI_head))
  | ((with_reducible refine' k_ixqL ?e ?f ?_); (case e => walk_at "sq"); (case f => first | exact rfl | exact atI_head))
  | ((with_reducible refine' k_lenL ?e ?_); (case e => walk_at "sq"))
  | ((with_reducible refine' k_lenT ?e ?_); (case e => walk_at "sq"))
  | ((with_reducible refine' k_ixL ?e ?f ?_); (case e => walk_at "sq"); (case f => first | exact rfl | exact atI_head))
  | ((with_reducible refine' k_ixT ?e ?f ?_); (case e => walk_at "sq"); (case f => first | exact rfl | exact atI_head))
  | ((with_reducible refine k_eq ?e ?_); (case e => exact rfl)) | ((with_reducible refine k_ne ?e ?_); (case e => exact rfl))
  | ((with_reducible refine k_rI ?e ?_); (case e => first | assumption | omega | decide | exact ⟨by omega, by omega⟩ | exact .inl ⟨by omega, by omega⟩ | exact .inr ⟨by omega, by omega⟩)))
local macro_rules | `(tactic| walk_at "rd") => `(tactic| repeat walk_at "r1")
local macro_rules | `(tactic| walk_at "r2") => `(tactic| first
  | walk_at "r1"
  | with_reducible refine k_ifTt ?_ | with_reducible refine k_ifFf ?_ | with_reducible refine k_ifNt ?_ | with_reducible refine k_ifNf ?_
  | with_reducible refine k_makeR ?_ | with_reducible refine k_tJ ?_ | with_reducible refine k_tJc ?_ | with_reducible refine k_tJn ?_ | with_reducible refine k_fmt ?_ | with_reducible refine k_lc ?_ | with_reducible refine k_din ?_ | with_reducible refine k_fld ?_ | with_reducible refine k_dget ?_
  | with_reducible refine k_dput ?_
  | with_reducible refine k_isNv ?_
  | with_reducible refine k_notNv ?_
  | with_reducible refine k_str ?_
  | with_reducible refine k_enumT ?_
  | with_reducible refine k_zipA ?_
  | with_reducible refine k_chain ?_
  | ((with_reducible refine' k_dgS ?e dkv_cells ?_); (case e => walk_at "lk"))
  | ((with_reducible refine' k_dgS ?e dkv_mixed ?_); (case e => walk_at "lk"))
  | ((with_reducible refine' k_dgS ?e dkv_turn ?_); (case e => walk_at "lk")))
local macro_rules | `(tactic| walk_at "rr") => `(tactic| repeat walk_at "r2")
-- steps end
theorem asc_ext : ∀ {l1 l2 : List Str}, l1.Pairwise sLt → l2.Pairwise sLt → (∀ x, x ∈ l1 ↔ x ∈ l2) → l1 = l2
  | [], [], _, _, _ => rfl
  | [], b :: l2, _, _, h => absurd ((h b).mpr List.mem_cons_self) List.not_mem_nil
  | a :: l1, [], _, _, h => absurd ((h a).mp List.mem_cons_self) List.not_mem_nil
  | a :: l1, b :: l2, h1, h2, h => by
    obtain ⟨p1, q1⟩ := List.pairwise_cons.mp h1
    obtain ⟨p2, q2⟩ := List.pairwise_cons.mp h2
    have e : a = b := by
      rcases List.mem_cons.mp ((h a).mp List.mem_cons_self) with e | m
      · exact e
      · rcases List.mem_cons.mp ((h b).mpr List.mem_cons_self) with e | m2
        · exact e.symm
        · exact (slt_asymm (p2 a m) (p1 b m2)).elim
    subst e
    rw [asc_ext q1 q2 fun x => ?_]
    constructor
    · intro hx
      exact (List.mem_cons.mp ((h x).mp (List.mem_cons_of_mem _ hx))).resolve_left fun e => slt_asymm (p1 x hx) (e ▸ p1 x hx)
    · intro hx
      exact (List.mem_cons.mp ((h x).mpr (List.mem_cons_of_mem _ hx))).resolve_left fun e => slt_asymm (p2 x hx) (e ▸ p2 x hx)
theorem strs_shaped {zs : List Str} (h : ∀ z ∈ zs, isNameB z = true) : SeqAt.shaped (.list (zs.map .str)) = true := by
  have := dep_strs zs
  unfold SeqAt.shaped
  simp [PyData.canLay0, lay_strs zs h, PyData.depth]
  omega
theorem bad_signs : ∀ l : List Nat, (l.filter fun c => !isLet c).isEmpty = l.all isLet
  | [] => rfl
  | c :: l => by
    cases hc : isLet c with
    | true =>
      rw [List.filter_cons_of_neg (by rw [hc]; decide), List.all_cons, hc]
      exact bad_signs l
    | false =>
      rw [List.filter_cons_of_pos (by rw [hc]; rfl), List.all_cons, hc]
      rfl
theorem none_bad {ds : List PyData} {g : PyData → Bool} {n : Nat} (l : n = ds.length) : ((List.range n).filter fun i => match ds[i]? with | some d => !g d | none => false).isEmpty = ds.all g := by
  have h := range_filter ds (fun i => match ds[i]? with | some d => !g d | none => false) (fun _ => ()) (fun d => !g d) (fun _ => ()) fun k x e => by rw [e]; exact ⟨rfl, rfl⟩
  have h2 := congrArg List.isEmpty h
  rw [List.isEmpty_map, List.isEmpty_map] at h2
  rw [l, h2]
  induction ds with
  | nil => rfl
  | cons d ds _ =>
    clear h h2 l
    have : ∀ ds : List PyData, (ds.filter fun d => !g d).isEmpty = ds.all g := fun ds => by
      induction ds with
      | nil => rfl
      | cons d ds ih =>
        cases hc : g d with
        | true =>
          rw [List.filter_cons_of_neg (by rw [hc]; decide), List.all_cons, hc]
          exact ih
        | false =>
          rw [List.filter_cons_of_pos (by rw [hc]; rfl), List.all_cons, hc]
          rfl
    exact this _
namespace L
section
variable {P : Program} {w : World} {K : PySem.W.Frag} {mg : Str → Option Value} {g0 : Heap} {C N : Addr}
abbrev s_is_name : Stmt := top 32
theorem sc_is_name : FnScope ["_law_it", "_law_sign"] ["_law_it"] (defScope s_is_name) :=
  ⟨rfl, rfl, rfl, by decide +kernel, rfl, by decide +kernel, by decide +kernel⟩
abbrev s_are_some : Stmt := top 33
theorem sc_are_some : FnScope ["_law_it", "_law_columns", "_law_one"] ["_law_it", "_law_columns"] (defScope s_are_some) :=
  ⟨rfl, rfl, rfl, by decide +kernel, rfl, by decide +kernel, by decide +kernel⟩
abbrev s_is_table : Stmt := top 34
theorem sc_is_table : FnScope ["_law_it", "_law_one"] ["_law_it"] (defScope s_is_table) :=
  ⟨rfl, rfl, rfl, by decide +kernel, rfl, by decide +kernel, by decide +kernel⟩
abbrev s_due : Stmt := top 35
theorem sc_due : FnScope ["_law_some", "_law_index", "_law_it", "_law_one"] ["_law_some"] (defScope s_due) :=
  ⟨rfl, rfl, rfl, by decide +kernel, rfl, by decide +kernel, by decide +kernel⟩
theorem ok_nameL {f : Addr} {fd : FuncData} (F : Fun K "_law_is_name" "_law_is_name" s_is_name f fd) (z_isinstance : mg "isinstance" = none) (z_str : mg "str" = none) (z_len : mg "len" = none) :
    GOk P w K mg g0 CX0 1 f fd ["_law_it"] spName := by
  have nd := sc_is_name.nd
  refine okG F sc_is_name (fun vs H Q E h => ?_) (fun cdv A up s H vs Q E qt hr h => ?_)
  · obtain ⟨v, d, rfl, _⟩ := h
    rfl
  · obtain ⟨v, d, rfl, hd, fd1, k⟩ := h
    refine ⟨_, (pss_cons (ps_if (PW.pt (pw_or (pt_not (pt_val (pe_callB call_isi (by rfl) z_isinstance (by decide +kernel) (pa_cons (pv 0) (pa_cons (pe_bltn (v := .ty "str") (by rfl) z_str PyProof.Rows.boot_str rfl) pa_nil))))) (pw_or1 (pt_not (pt_chain op_le op_le pe_int (pe_callB call_len_str (by rfl) z_len (by decide +kernel) (pa_cons (pv 0) pa_nil)) pe_int))))) (pss_one (ps_ret pe_bl)) pss_nil)
        (pss_one (ps_ret (pe_cmpR (op_eqL0 hr.units) (pe_lc (own := [("_law_sign", 1)]) (g := (gName 1)) (tt := (tTest (tOp _ (tVar 1) (tC (.str "abcdefghijklmnopqrstuvwxyz"))))) (te := (tVar 1)) (by rfl) nd (pi_str (pv 0)) (blkOk_by (own := [("_law_sign", 1)]) (N := ["_law_it", "_law_sign"]) (sc := defScope s_is_name) (by decide +kernel)) (fun _ _ _ _ _ => by exact (pg_name (i := 1) nd rfl (Or.inl rfl))) (fun _ _ _ _ _ => by exact (pts_one (pt_cmpR op_notIn_str (pv 1) pe_str (by rfl)))) (fun _ _ _ _ _ => by exact (pv 1))) (pe_lst pa_nil) (nomark _))))), ?_⟩
    walk_at "rr"
    refine isi_str hd ?_
    by_cases hs : ∃ z, d = .str z
    · obtain ⟨z, rfl⟩ := hs
      cases hd
      have as : Asc z := of_decide_eq_true fd1.fi
      have le : z.length ≤ 4000 := fd1.we
      have k2 : ∀ H', Same H H' → Q (.bl (isNameB z)) H' := k
      have bad : isNameB z = false → ∀ H', Same H H' → Q (.bl false) H' := fun e H' s' => e ▸ k2 H' s'
      refine ⟨true, rfl, ?_⟩
      walk_at "rr"
      refine ⟨z, rfl, by rw [sizeLine_eq]; omega, ?_⟩
      walk_at "rr"
      refine k_iteD (fun z1 => ?_) fun z1 => ?_
      · walk_at "rr"
        by_cases z2 : (z.length : Int) ≤ 8
        · refine k_sureN z2 ?_
          walk_at "rr"
          have lz : z.cps.size = z.length := rfl
          refine ⟨z, rfl, fun D hD => ?_⟩
          refine lc_same walk_str (fun i => match z.cps.toList[i]? with | some c => .str ⟨#[c]⟩ | none => .non) (fun i => match z.cps.toList[i]? with | some c => !isLet c | none => false) (by show z.cps.size < _; omega) hD (fun _ _ => trivial) (fun k x H1 H2 hk s1 y Q1 R1 q1 r1 => ?_) fun H1 s1 hD1 => ?_
          · obtain ⟨rfl, c, hc, rfl⟩ := y
            have hc2 : z.cps.toList[k]? = some c := by rw [Array.getElem?_toList]; exact hc
            rw [hc2] at q1 r1
            have q2 : (!isLet c) = true → ∀ H4, Same H2 H4 → Q1 (.str ⟨#[c]⟩) H4 := q1
            have r2 : (!isLet c) = false → ∀ H4, Same H2 H4 → R1 H4 := r1
            walk_at "rr"
            refine ⟨rfl, ?_⟩
            walk_at "rr"
            refine ⟨_, _, rfl, rfl, ?_⟩
            rw [let_is (as c (List.mem_of_getElem? hc2))]
            cases hL : isLet c with
            | true =>
              rw [hL] at r2
              exact ⟨false, rfl, k_ifFf (r2 rfl _ (Same.refl _))⟩
            | false =>
              rw [hL] at q2
              refine ⟨true, rfl, k_ifTt ?_⟩
              walk_at "rr"
              exact q2 rfl _ (Same.refl _)
          · rw [show z.cps.size = z.cps.toList.length from (Array.length_toList ..).symm, range_filter z.cps.toList _ _ (fun c => !isLet c) (fun c => V.str ⟨#[c]⟩) (fun k x e => by rw [e]; exact ⟨rfl, rfl⟩)] at hD1
            walk_at "rr"
            refine ⟨k_sz rfl, fun p hp => ?_⟩
            walk_at "rr"
            refine ⟨D, p, _, rfl, rfl, SqL.of (Same.upd hp _ _ hD1), SqL.of upd_same, ?_⟩
            have := k2 _ (s1.trans (Same.upd (o := .lst []) hp))
            have e : isNameB z = ((z.cps.toList.filter fun c => !isLet c).map fun c => V.str ⟨#[c]⟩).isEmpty := by
              unfold isNameB
              rw [decide_eq_true (by omega), decide_eq_true (by omega), List.isEmpty_map]
              rw [bad_signs]
              rfl
            rw [e] at this
            exact this
        · refine k_notN1 z2 ?_
          walk_at "rr"
          exact bad (by unfold isNameB; rw [decide_eq_false (p := z.length ≤ 8) (by omega)]; simp) _ (Same.refl _)
      · walk_at "rr"
        exact bad (by unfold isNameB; rw [decide_eq_false (p := 1 ≤ z.length) (by omega)]; simp) _ (Same.refl _)
    · have e1 : isS d = false := by
        cases d with
        | str z => exact absurd ⟨z, rfl⟩ hs
        | _ => rfl
      have e2 : nmB d = false := by
        cases d with
        | str z => exact absurd ⟨z, rfl⟩ hs
        | _ => rfl
      rw [e1]
      refine ⟨false, rfl, ?_⟩
      walk_at "rr"
      have := k _ (Same.refl _)
      rw [e2] at this
      exact this
open Classical in
def spSomeL : Sp := fun vs H Q _ => ∃ (v : V) (d : PyData) (c : Addr) (cs : List Str), vs = [v, .ref c] ∧ Dq H v d ∧ Ok1 d ∧ H c = some (.tup (cs.map V.str)) ∧ (∀ z ∈ cs, isNameB z = true) ∧ ∀ H', Same H H' → Q (.bl (decide (IsSome d cs))) H'
open Classical in
theorem ok_someL {f : Addr} {fd : FuncData} (F : Fun K "_law_are_some" "_law_are_some" s_are_some f fd) (C_is_name : Cal P w K mg g0 "_law_is_name" 1 ["_law_it"] spName)
    (z_isinstance : mg "isinstance" = none) (z_tuple : mg "tuple" = none) (z_list : mg "list" = none) (z_sorted : mg "sorted" = none) (z_set : mg "set" = none) :
    GOk P w K mg g0 CX0 2 f fd ["_law_it", "_law_columns"] spSomeL := by
  have nd := sc_are_some.nd
  refine okG F sc_are_some (fun vs H Q E h => ?_) (fun cdv A up s H vs Q E qt hr h => ?_)
  · obtain ⟨v, d, c, cs, rfl, _⟩ := h
    rfl
  · obtain ⟨v, d, c, cs, rfl, hd, fd1, hc, hcn, k⟩ := h
    have bad : ¬ IsSome d cs → ∀ H', Same H H' → Q (.bl false) H' := fun h H' s' => by
      have := k H' s'
      rw [decide_eq_false h] at this
      exact this
    refine ⟨_, (pss_cons (ps_if (PW.pt (pw_or (pt_not (pt_val (pe_callB call_isi (by rfl) z_isinstance (by decide +kernel) (pa_cons (pv 0) (pa_cons (pe_bltn (v := .ty "tuple") (by rfl) z_tuple PyProof.Rows.boot_tuple rfl) pa_nil))))) (pw_or1 (pt_cmpR (op_neL0 hr.units) (pe_lc (own := [("_law_one", 2)]) (g := (gName 2)) (tt := _) (te := (tVar 2)) (by rfl) nd (pi_tup (pv 0)) (blkOk_by (own := [("_law_one", 2)]) (N := ["_law_it", "_law_columns", "_law_one"]) (sc := defScope s_are_some) (by decide +kernel)) (fun _ _ _ _ _ => by exact (pg_name (i := 2) nd rfl (Or.inl rfl))) (fun _ _ _ _ _ => by exact (pts_one (PW.pt (pw_or (pt_not (pt_val (pe_c C_is_name qt (hr.mono (by decide)) (pa_cons (pv 2) pa_nil)))) (pw_or1 (pt_cmpR (op_notInK (K := K) rfl) (pv 2) (pv 1) (by rfl))))))) (fun _ _ _ _ _ => by exact (pv 2))) (pe_lst pa_nil) (nomark _))))) (pss_one (ps_ret pe_bl)) pss_nil)
        (pss_one (ps_ret (pe_cmpR (op_eqD hr.units) (pe_callTy c_list (by rfl) z_list (by decide +kernel) (pa_cons (pv 0) pa_nil)) (pe_callB (call_sortedT rfl hr.units) (by rfl) z_sorted (by decide +kernel) (pa_cons (pe_callTy (call_setT rfl) (by rfl) z_set (by decide +kernel) (pa_cons (pv 0) pa_nil)) pa_nil)) (nomark _))))), ?_⟩
    walk_at "rr"
    refine isi_tup hd ?_
    by_cases ht : ∃ ds, d = .tuple ds
    · obtain ⟨ds, rfl⟩ := ht
      cases hd with
      | @tup a xs _ ha hs =>
      have l := hs.len
      have fa : FA 1000 4000 49 ds := fd1.inT
      have ll := fa_len fa
      have inj : ∀ {zs : List Str}, PyData.tuple ds = strsD zs → ds = zs.map .str := fun h => by
        unfold strsD at h
        injection h
      refine ⟨true, rfl, ?_⟩
      walk_at "rr"
      refine ⟨_, rfl, ⟨_, SqT.of ha⟩, fun D hD => ?_⟩
      refine lc_same (walk_tup (xs := xs)) (fun i => match xs[i]? with | some x => x | none => .non) (fun i => match ds[i]? with | some d => !(nmB d && isIn d cs) | none => false) (by omega) hD (fun H2 s2 => SqT.of (s2 _ _ ha)) (fun k x H2 H3 hk s2 y Q1 R1 q1 r1 => ?_) fun H2 s2 hD1 => ?_
      · obtain ⟨rfl, y⟩ := y
        have e : xs[k]? = some x := y
        obtain ⟨d, hd, dq⟩ := hs.get e
        rw [hd, e] at q1
        rw [hd] at r1
        have q1 : (!(nmB d && isIn d cs)) = true → ∀ H4, Same H3 H4 → Q1 x H4 := q1
        have r1 : (!(nmB d && isIn d cs)) = false → ∀ H4, Same H3 H4 → R1 H4 := r1
        walk_at "rr"
        refine ⟨rfl, ?_⟩
        walk_at "rr"
        refine ⟨x, d, rfl, dq.same s2, (FD.get fa hd).mono (Nat.le_refl _) (Nat.le_refl _) (by decide), fun H4 s4 => ?_⟩
        cases hn : nmB d with
        | false =>
          rw [hn] at q1
          walk_at "rr"
          exact q1 rfl _ s4
        | true =>
          rw [hn] at q1 r1
          cases d with
          | str z =>
            cases dq
            walk_at "rr"
            refine ⟨_, _, rfl, .inr (SqT.of (s4 _ _ (s2 _ _ hc))), rfl, L2.flat_strs _, ?_⟩
            rw [if_pos rfl, inV_strs]
            cases hi : decide (z ∈ cs) with
            | true =>
              rw [show isIn (.str z) cs = true from hi] at r1
              exact ⟨false, rfl, k_ifFf (r1 rfl _ s4)⟩
            | false =>
              rw [show isIn (.str z) cs = false from hi] at q1
              refine ⟨true, rfl, k_ifTt ?_⟩
              walk_at "rr"
              exact q1 rfl _ s4
          | _ => cases hn
      · walk_at "rr"
        refine ⟨k_sz rfl, fun p hp => ?_⟩
        walk_at "rr"
        refine ⟨D, p, _, rfl, rfl, SqL.of (Same.upd hp _ _ hD1), SqL.of upd_same, ?_⟩
        rw [List.isEmpty_map, none_bad (g := fun d => nmB d && isIn d cs) l]
        have s3 : Same H (upd H2 p (.lst [])) := s2.trans (Same.upd hp)
        generalize upd H2 p (.lst []) = H3 at s3 ⊢
        cases al : ds.all fun d => nmB d && isIn d cs with
        | true =>
          have al2 : (ds.map fun d => isIn d cs).all id = true := by
            rw [List.all_map]
            rw [List.all_eq_true] at al ⊢
            intro d hd
            have := al d hd
            rw [Bool.and_eq_true] at this
            exact this.2
          obtain ⟨zs, rfl, rfl, hn⟩ := all_in hs al2
          rw [List.length_map] at ll
          have nm : ∀ z ∈ zs, isNameB z = true := fun z hz => hcn z (hn z hz)
          refine ⟨false, rfl, ?_⟩
          walk_at "rr"
          refine k_listT (SqT.of (s3 _ _ ha)) fun l1 hl1 => ?_
          walk_at "rr"
          have s4 := s3.trans (Same.upd (o := .lst (zs.map V.str)) hl1)
          refine ⟨a, zs, rfl, .inr (SqT.of (s4 _ _ ha)), ll, fun p2 hp2 => ?_⟩
          have s5 := s4.trans (Same.upd (o := SetD P w p2 zs) hp2)
          have h1 := Same.upd (o := SetD P w p2 zs) hp2 _ _ (upd_same (H := H3) (a := l1) (o := .lst (zs.map V.str)))
          walk_at "rr"
          refine ⟨p2, zs, rfl, upd_same, fun q ys hq2 asc mem => ?_⟩
          have h2 := Same.upd (o := .lst (ys.map V.str)) hq2 _ _ h1
          have s6 := s5.trans (Same.upd (o := .lst (ys.map V.str)) hq2)
          walk_at "rr"
          have ny : ∀ z ∈ ys, isNameB z = true := fun z hz => nm z ((mem z).mp hz)
          refine ⟨_, _, .lst (SqL.of h2) (dpAll_strs zs), .lst (SqL.of upd_same) (dpAll_strs ys), strs_shaped nm, strs_shaped ny, ?_⟩
          have := k _ s6
          rw [show decide (IsSome (.tuple (zs.map .str)) cs) = PyData.eqv (.list (zs.map .str)) (.list (ys.map .str)) from ?_] at this
          · exact this
          · have e : PyData.eqv (.list (zs.map .str)) (.list (ys.map .str)) = decide (zs = ys) := eqv_strs zs ys
            rw [e]
            refine decide_eq_decide.mpr ⟨fun ⟨us, e, _, pa⟩ => ?_, fun e => ⟨zs, rfl, hn, e ▸ asc⟩⟩
            obtain rfl := strs_inj (inj e)
            exact asc_ext pa asc fun x => (mem x).symm
        | false =>
          refine ⟨true, rfl, ?_⟩
          walk_at "rr"
          refine bad ?_ _ s3
          rintro ⟨zs, e, hn, _⟩
          have e := inj e
          subst e
          have : ((zs.map PyData.str).all fun d => nmB d && isIn d cs) = true := by
            rw [List.all_eq_true]
            intro d hd
            obtain ⟨z, hz, rfl⟩ := List.mem_map.mp hd
            rw [Bool.and_eq_true]
            exact ⟨hcn z (hn z hz), decide_eq_true (hn z hz)⟩
          rw [this] at al
          cases al
    · have e1 : isT d = false := by
        cases d with
        | tuple ds => exact absurd ⟨ds, rfl⟩ ht
        | _ => rfl
      rw [e1]
      refine ⟨false, rfl, ?_⟩
      walk_at "rr"
      refine bad ?_ _ (Same.refl _)
      rintro ⟨zs, e, _⟩
      exact ht ⟨_, e⟩
end
end L
end K01

set_option Elab.async false
set_option maxRecDepth 100000
set_option maxHeartbeats 4000000
set_option linter.unusedVariables false
namespace K01.L
open PySem PySem.Spec PyProof.Rows L2 Own StX
-- steps
local macro_rules | `(tactic| walk_at "lk") => `(tactic| first
  | assumption | exact upd_same
  | ((with_reducible refine' lk_new ?e (by assumption)); (case e => walk_at "lk"))
  | ((with_reducible refine' lk_ext (by assumption) ?e); (case e => walk_at "lk"))
  | ((with_reducible refine' lk_same (by assumption) ?e); (case e => walk_at "lk")))
local macro_rules | `(tactic| walk_at "sq") => `(tactic| first | assumption | exact SqL.of (by walk_at "lk") | exact SqT.of (by walk_at "lk"))
local macro_rules | `(tactic| walk_at "r1") => `(tactic| first
  | with_reducible refine k_seq ?_ | with_reducible refine k_asg ?_ | with_reducible refine k_ret ?_ | with_reducible refine k_drop ?_ | with_reducible refine k_next ?_ | with_reducible refine k_ifS ?_
  | ((with_reducible refine' k_var ?e ?_); (case e => exact rfl)) | with_reducible refine k_c ?_ | with_reducible refine k_op ?_ | with_reducible refine k_un ?_ | with_reducible refine k_test ?_ | with_reducible refine k_B ?_
  | with_reducible refine k_and ?_ | with_reducible refine k_or ?_ | with_reducible refine k_not ?_ | with_reducible refine k_andV ?_ | with_reducible refine k_orV ?_ | with_reducible refine k_notV ?_ | with_reducible refine k_if ?_
  | with_reducible refine k_nil ?_ | with_reducible refine k_cons ?_ | with_reducible refine k_tup ?_ | with_reducible refine k_lst ?_ | with_reducible refine k_call ?_ | with_reducible refine k_cb ?_ | with_reducible refine k_ck ?_
  | with_reducible refine k_par ?_ | with_reducible refine k_par1 ?_ | with_reducible refine k_tr ?_ | with_reducible refine k_rI0 ?_ | with_reducible refine k_rU ?_
  | with_reducible refine k_gN ?_ | with_reducible refine k_gS ?_ | with_reducible refine k_gNil ?_ | with_reducible refine k_gCons ?_ | with_reducible refine k_bm0 ?_ | with_reducible refine k_bm ?_
  | with_reducible refine k_for ?_ | with_reducible refine k_iL ?_ | with_reducible refine k_iT ?_ | with_reducible refine k_iR1 ?_ | ((with_reducible refine k_iR1i ?e ?_); (case e => first | decide | exact ⟨by omega, by omega⟩))
  | with_reducible refine k_max ?_ | with_reducible refine k_isB ?_ | with_reducible refine k_sl ?_ | with_reducible refine k_noP ?_ | with_reducible refine k_part ?_ | with_reducible refine k_partI ?_ | with_reducible refine k_revL ?_
  | ((with_reducible refine' k_ixqT ?e ?f ?_); (case e => walk_at "sq"); (case f => first | exact rfl | exact atI_head))
  | ((with_reducible refine' k_ixqL ?e ?f ?_); (case e => walk_at "sq"); (case f => first | exact rfl | exact atI_head))
  | ((with_reducible refine' k_lenL ?e ?_); (case e => walk_at "sq"))
  | ((with_reducible refine' k_lenT ?e ?_); (case e => walk_at "sq"))
  | ((with_reducible refine' k_ixL ?e ?f ?_); (case e => walk_at "sq"); (case f => first | exact rfl | exact atI_head))
  | ((with_reducible refine' k_ixT ?e ?f ?_); (case e => walk_at "sq"); (case f => first | exact rfl | exact atI_head))
  | ((with_reducible refine k_eq ?e ?_); (case e => exact rfl)) | ((with_reducible refine k_ne ?e ?_); (case e => exact rfl))
  | ((with_reducible refine k_rI ?e ?_); (case e => first | assumption | omega | decide | exact ⟨by omega, by omega⟩ | exact .inl ⟨by omega, by omega⟩ | exact .inr ⟨by omega, by omega⟩)))
local macro_rules | `(tactic| walk_at "rd") => `(tactic| repeat walk_at "r1")
local macro_rules | `(tactic| walk_at "r2") => `(tactic| first
  | walk_at "r1"
  | with_reducible refine k_ifTt ?_ | with_reducible refine k_ifFf ?_ | with_reducible refine k_ifNt ?_ | with_reducible refine k_ifNf ?_
  | with_reducible refine k_makeR ?_ | with_reducible refine k_tJ ?_ | with_reducible refine k_tJc ?_ | with_reducible refine k_tJn ?_ | with_reducible refine k_fmt ?_ | with_reducible refine k_lc ?_ | with_reducible refine k_din ?_ | with_reducible refine k_fld ?_ | with_reducible refine k_dget ?_
  | with_reducible refine k_dput ?_
  | with_reducible refine k_isNv ?_
  | with_reducible refine k_notNv ?_
  | with_reducible refine k_str ?_
  | with_reducible refine k_enumT ?_
  | with_reducible refine k_zipA ?_
  | with_reducible refine k_chain ?_
  | ((with_reducible refine' k_dgS ?e dkv_cells ?_); (case e => walk_at "lk"))
  | ((with_reducible refine' k_dgS ?e dkv_mixed ?_); (case e => walk_at "lk"))
  | ((with_reducible refine' k_dgS ?e dkv_turn ?_); (case e => walk_at "lk")))
local macro_rules | `(tactic| walk_at "rr") => `(tactic| repeat walk_at "r2")
-- steps end
section
variable {P : Program} {w : World} {K : PySem.W.Frag} {mg : Str → Option Value} {g0 : Heap} {C N : Addr}
open Classical in
theorem ok_tableL {f : Addr} {fd : FuncData} (F : Fun K "_law_is_table" "_law_is_table" s_is_table f fd) (C_is_name : Cal P w K mg g0 "_law_is_name" 1 ["_law_it"] spName) (C_are_some : Cal P w K mg g0 "_law_are_some" 2 ["_law_it", "_law_columns"] spSomeL)
    (z_isinstance : mg "isinstance" = none) (z_tuple : mg "tuple" = none) (z_len : mg "len" = none) (z_set : mg "set" = none) :
    GOk P w K mg g0 CX0 3 f fd ["_law_it"] spTable := by
  have nd := sc_is_table.nd
  refine okG F sc_is_table (fun vs H Q E h => ?_) (fun cdv A up s H vs Q E qt hr h => ?_)
  · obtain ⟨v, d, rfl, _⟩ := h
    rfl
  · obtain ⟨v, d, rfl, hd, fd1, k⟩ := h
    have bad : ¬ IsTab d → ∀ H', Same H H' → Q (.bl false) H' := fun h H' s' => by
      have := k H' s'
      rw [decide_eq_false h] at this
      exact this
    refine ⟨_, (pss_cons (ps_if (PW.pt (pw_or (pt_not (pt_val (pe_callB call_isi (by rfl) z_isinstance (by decide +kernel) (pa_cons (pv 0) (pa_cons (pe_bltn (v := .ty "tuple") (by rfl) z_tuple PyProof.Rows.boot_tuple rfl) pa_nil))))) (pw_or (pt_cmpR op_ne (pe_callB (c_lenK (K := K) rfl) (by rfl) z_len (by decide +kernel) (pa_cons (pv 0) pa_nil)) pe_int (nomark _)) (pw_or (pt_not (pt_val (pe_c C_is_name qt (hr.mono (by decide)) (pa_cons (pe_ix ix_tup (pv 0) pe_int (fun _ _ => rfl)) pa_nil)))) (pw_or1 (pt_not (pt_val (pe_callB call_isi (by rfl) z_isinstance (by decide +kernel) (pa_cons (pe_ix ix_tup (pv 0) pe_int (fun _ _ => rfl)) (pa_cons (pe_bltn (v := .ty "tuple") (by rfl) z_tuple PyProof.Rows.boot_tuple rfl) pa_nil)))))))))) (pss_one (ps_ret pe_bl)) pss_nil)
        (pss_cons (ps_if (PW.pt (pw_or (pt_cmpR (op_neL0 hr.units) (pe_lc (own := [("_law_one", 1)]) (g := (gName 1)) (tt := (tNot (tB (tCall _ [] E0 (tCons (tVar 1) tNil))))) (te := (tVar 1)) (by rfl) nd (pi_tup (pe_ix ix_tup (pv 0) pe_int (fun _ _ => rfl))) (blkOk_by (own := [("_law_one", 1)]) (N := ["_law_it", "_law_one"]) (sc := defScope s_is_table) (by decide +kernel)) (fun _ _ _ _ _ => by exact (pg_name (i := 1) nd rfl (Or.inl rfl))) (fun _ _ _ _ _ => by exact (pts_one (pt_not (pt_val (pe_c C_is_name qt (hr.mono (by decide)) (pa_cons (pv 1) pa_nil)))))) (fun _ _ _ _ _ => by exact (pv 1))) (pe_lst pa_nil) (nomark _)) (pw_or1 (pt_not (pt_chain op_le op_le pe_int (pe_callB (c_lenK (K := K) rfl) (by rfl) z_len (by decide +kernel) (pa_cons (pe_ix ix_tup (pv 0) pe_int (fun _ _ => rfl)) pa_nil)) pe_int))))) (pss_one (ps_ret pe_bl)) pss_nil)
        (pss_one (ps_ret (pe_and (pe_cmpR op_eq (pe_callB call_lenK (by rfl) z_len (by decide +kernel) (pa_cons (pe_callTy (call_setS rfl) (by rfl) z_set (by decide +kernel) (pa_cons (pe_ix ix_tup (pv 0) pe_int (fun _ _ => rfl)) pa_nil)) pa_nil)) (pe_callB (c_lenK (K := K) rfl) (by rfl) z_len (by decide +kernel) (pa_cons (pe_ix ix_tup (pv 0) pe_int (fun _ _ => rfl)) pa_nil)) (nomark _)) (pe_and (pe_c C_are_some qt (hr.mono (by decide)) (pa_cons (pe_ix ix_tup (pv 0) pe_int (fun _ _ => rfl)) (pa_cons (pe_ix ix_tup (pv 0) pe_int (fun _ _ => rfl)) pa_nil))) (pe_one (pe_c C_are_some qt (hr.mono (by decide)) (pa_cons (pe_ix ix_tup (pv 0) pe_int (fun _ _ => rfl)) (pa_cons (pe_ix ix_tup (pv 0) pe_int (fun _ _ => rfl)) pa_nil)))))))))), ?_⟩
    walk_at "rr"
    refine isi_tup hd ?_
    by_cases ht : ∃ ds, d = .tuple ds
    · obtain ⟨ds, rfl⟩ := ht
      cases hd with
      | @tup a xs _ ha hs =>
      have l := hs.len
      refine ⟨true, rfl, ?_⟩
      walk_at "rr"
      by_cases h4 : ds.length = 4
      · match ds, h4, xs, hs with
        | [d0, d1, d2, d3], _, [x0, x1, x2, x3], .cons h0 (.cons h1 (.cons h2 (.cons h3 .nil))) =>
        have fa : FA 1000 4000 49 [d0, d1, d2, d3] := fd1.inT
        have o0 : Ok1 d0 := (FD.get fa (i := 0) rfl).mono (Nat.le_refl _) (Nat.le_refl _) (by decide)
        have o1 : Ok1 d1 := (FD.get fa (i := 1) rfl).mono (Nat.le_refl _) (Nat.le_refl _) (by decide)
        have o2 : Ok1 d2 := (FD.get fa (i := 2) rfl).mono (Nat.le_refl _) (Nat.le_refl _) (by decide)
        have o3 : Ok1 d3 := (FD.get fa (i := 3) rfl).mono (Nat.le_refl _) (Nat.le_refl _) (by decide)
        have shut : ∀ {t : T}, PyData.tuple [d0, d1, d2, d3] = t.data → d0 = .str t.nm ∧ d1 = strsD t.cs ∧ d2 = strsD t.is ∧ d3 = strsD t.ks := fun e => by
          unfold T.data at e
          injection e with e
          injection e with e0 e
          injection e with e1 e
          injection e with e2 e
          injection e with e3 _
          exact ⟨e0, e1, e2, e3⟩
        refine k_sureN rfl ?_
        walk_at "rr"
        try refine k_ixT (SqT.of ha) rfl ?_
        walk_at "rr"
        refine ⟨x0, d0, rfl, h0, o0, fun H1 s1 => ?_⟩
        cases n0 : nmB d0 with
        | false =>
          walk_at "rr"
          refine bad (fun ⟨t, ok, e⟩ => ?_) _ s1
          rw [(shut e).1] at n0
          have := ok.nm
          rw [show isNameB t.nm = false from n0] at this
          cases this
        | true =>
          walk_at "rr"
          try refine k_ixT (SqT.of (s1 _ _ ha)) rfl ?_
          walk_at "rr"
          refine isi_tup (h1.same s1) ?_
          by_cases ht1 : ∃ es, d1 = .tuple es
          · obtain ⟨es, rfl⟩ := ht1
            cases h1 with
            | @tup a1 ys _ ha1 hs1 =>
            have l1 := hs1.len
            have fa1 : FA 1000 4000 49 es := o1.inT
            have ll1 := fa_len fa1
            have inj : ∀ {zs : List Str}, PyData.tuple es = strsD zs → es = zs.map .str := fun h => by
              unfold strsD at h
              injection h
            refine ⟨true, rfl, ?_⟩
            walk_at "rr"
            try refine k_ixT (SqT.of (s1 _ _ ha)) rfl ?_
            walk_at "rr"
            refine ⟨_, rfl, ⟨_, SqT.of (s1 _ _ ha1)⟩, fun D hD => ?_⟩
            refine lc_same (walk_tup (xs := ys)) (fun i => match ys[i]? with | some x => x | none => .non) (fun i => match es[i]? with | some d => !nmB d | none => false) (by omega) hD (fun H2 s2 => SqT.of (s2 _ _ (s1 _ _ ha1))) (fun k x H2 H3 hk s2 y Q1 R1 q1 r1 => ?_) fun H2 s2 hD1 => ?_
            · obtain ⟨rfl, y⟩ := y
              have e : ys[k]? = some x := y
              obtain ⟨d, hd, dq⟩ := hs1.get e
              rw [hd, e] at q1
              rw [hd] at r1
              have q1 : (!nmB d) = true → ∀ H4, Same H3 H4 → Q1 x H4 := q1
              have r1 : (!nmB d) = false → ∀ H4, Same H3 H4 → R1 H4 := r1
              walk_at "rr"
              refine ⟨rfl, ?_⟩
              walk_at "rr"
              refine ⟨x, d, rfl, dq.same (s1.trans s2), (FD.get fa1 hd).mono (Nat.le_refl _) (Nat.le_refl _) (by decide), fun H4 s4 => ?_⟩
              cases hn : nmB d with
              | false =>
                rw [hn] at q1
                walk_at "rr"
                exact q1 rfl _ s4
              | true =>
                rw [hn] at r1
                walk_at "rr"
                exact r1 rfl _ s4
            · walk_at "rr"
              refine ⟨k_sz rfl, fun p hp => ?_⟩
              walk_at "rr"
              generalize hL : ((List.range ys.length).filter _).map _ = L at hD1
              have eb : L.isEmpty = es.all nmB := by
                rw [← hL, List.isEmpty_map]
                exact none_bad (g := nmB) l1
              refine ⟨D, p, L, rfl, rfl, SqL.of (Same.upd hp _ _ hD1), SqL.of upd_same, ?_⟩
              rw [eb]
              have s3 : Same H (upd H2 p (.lst [])) := (s1.trans s2).trans (Same.upd hp)
              generalize upd H2 p (.lst []) = H3 at s3 ⊢
              cases al : es.all nmB with
              | false =>
                refine ⟨true, rfl, ?_⟩
                walk_at "rr"
                refine bad (fun ⟨t, ok, e⟩ => ?_) _ s3
                have e1 := inj (shut e).2.1
                have := strs_names ok.cn
                rw [List.all_map, ← e1] at this
                rw [show es.all (id ∘ nmB) = es.all nmB from rfl, al] at this
                cases this
              | true =>
                obtain ⟨zs, rfl, rfl, hn⟩ := all_names hs1 (by rw [List.all_map]; exact al)
                refine ⟨false, rfl, ?_⟩
                walk_at "rr"
                try refine k_ixT (SqT.of (s3 _ _ ha)) rfl ?_
                walk_at "rr"
                have no : ¬ IsCols (strsD zs) → ¬ IsTab (.tuple [d0, .tuple (zs.map .str), d2, d3]) := fun n h => by
                  have := (tab_iff (d0 := d0) (d1 := strsD zs) (d2 := d2) (d3 := d3) rfl).mp h
                  exact n this.2.1
                refine k_iteD (fun z1 => ?_) fun z1 => ?_
                · walk_at "rr"
                  by_cases z2 : (((zs.map V.str).length : Nat) : Int) ≤ 3
                  · refine k_sureN z2 ?_
                    rw [List.length_map] at z1 z2
                    walk_at "rr"
                    try refine k_ixT (SqT.of (s3 _ _ ha)) rfl ?_
                    walk_at "rr"
                    refine ⟨a1, zs, rfl, .inr (SqT.of (s3 _ _ ha1)), by omega, fun p2 c hp2 hc => ?_⟩
                    walk_at "rr"
                    refine ⟨p2, _, _, rfl, upd_same, ?_⟩
                    have s4 := s3.trans (Same.upd (o := SetK P w p2 (TxtIn zs) c) hp2)
                    walk_at "rr"
                    try refine k_ixT (SqT.of (s4 _ _ ha)) rfl ?_
                    walk_at "rr"
                    have iff := tab_iff (d0 := d0) (d1 := strsD zs) (d2 := d2) (d3 := d3) (cs := zs) rfl
                    by_cases nd0 : zs.Nodup
                    · have cols : IsCols (strsD zs) := ⟨zs, rfl, hn, by omega, by omega, nd0⟩
                      refine k_sure (by rw [List.length_map, hc.2.mpr nd0]) ?_
                      walk_at "rr"
                      try refine k_ixT (SqT.of (s4 _ _ ha)) rfl ?_
                      walk_at "rr"
                      try refine k_ixT (SqT.of (s4 _ _ ha)) rfl ?_
                      walk_at "rr"
                      refine ⟨x2, d2, a1, zs, rfl, h2.same s4, o2, s4 _ _ ha1, hn, fun H5 s5 => ?_⟩
                      by_cases n2 : IsSome d2 zs
                      · rw [decide_eq_true n2]
                        walk_at "rr"
                        try refine k_ixT (SqT.of (s5 _ _ (s4 _ _ ha))) rfl ?_
                        walk_at "rr"
                        try refine k_ixT (SqT.of (s5 _ _ (s4 _ _ ha))) rfl ?_
                        walk_at "rr"
                        refine ⟨x3, d3, a1, zs, rfl, h3.same (s4.trans s5), o3, s5 _ _ (s4 _ _ ha1), hn, fun H6 s6 => ?_⟩
                        have := k H6 ((s4.trans s5).trans s6)
                        rw [show decide (IsTab (.tuple [d0, .tuple (zs.map .str), d2, d3])) = decide (IsSome d3 zs) from decide_eq_decide.mpr ⟨fun h => (iff.mp h).2.2.2, fun h => iff.mpr ⟨n0, cols, n2, h⟩⟩] at this
                        exact this
                      · rw [decide_eq_false n2]
                        walk_at "rr"
                        exact bad (fun h => n2 (iff.mp h).2.2.1) _ (s4.trans s5)
                    · refine k_not1 (fun e => nd0 (hc.2.mp ?_)) ?_
                      · rw [List.length_map] at e
                        have := V.int.inj e
                        omega
                      · walk_at "rr"
                        refine bad (no fun ⟨ys, e, _, _, _, n⟩ => nd0 ?_) _ s4
                        rw [strsD_inj e]
                        exact n
                  · refine k_notN1 z2 ?_
                    rw [List.length_map] at z2
                    walk_at "rr"
                    refine bad (no fun ⟨ys, e, _, _, h3, _⟩ => ?_) _ s3
                    rw [strsD_inj e] at z2
                    omega
                · rw [List.length_map] at z1
                  walk_at "rr"
                  refine bad (no fun ⟨ys, e, _, h1, _⟩ => ?_) _ s3
                  rw [strsD_inj e] at z1
                  omega
          · have e1 : isT d1 = false := by
              cases d1 with
              | tuple ds => exact absurd ⟨ds, rfl⟩ ht1
              | _ => rfl
            rw [e1]
            refine ⟨false, rfl, ?_⟩
            walk_at "rr"
            exact bad (fun ⟨t, _, e⟩ => ht1 ⟨_, (shut e).2.1⟩) _ s1
      · refine k_notN1 (fun e => h4 ?_) ?_
        · have := V.int.inj e
          omega
        · walk_at "rr"
          refine bad (fun ⟨t, _, e⟩ => h4 ?_) _ (Same.refl _)
          unfold T.data at e
          injection e with e
          rw [e]
          rfl
    · have e1 : isT d = false := by
        cases d with
        | tuple ds => exact absurd ⟨ds, rfl⟩ ht
        | _ => rfl
      rw [e1]
      refine ⟨false, rfl, ?_⟩
      walk_at "rr"
      refine bad ?_ _ (Same.refl _)
      rintro ⟨t, _, e⟩
      exact ht ⟨_, e⟩
end
end K01.L

set_option Elab.async false
set_option maxRecDepth 100000
set_option maxHeartbeats 4000000
set_option linter.unusedVariables false
namespace K01.L
open PySem PySem.Spec PyProof.Rows L2 Own StX
-- steps
local macro_rules | `(tactic| walk_at "lk") => `(tactic| first
  | assumption | exact upd_same
  | ((with_reducible refine' lk_new ?e (by assumption)); (case e => walk_at "lk"))
  | ((with_reducible refine' lk_ext (by assumption) ?e); (case e => walk_at "lk"))
  | ((with_reducible refine' lk_same (by assumption) ?e); (case e => walk_at "lk")))
local macro_rules | `(tactic| walk_at "sq") => `(tactic| first | assumption | exact SqL.of (by walk_at "lk") | exact SqT.of (by walk_at "lk"))
local macro_rules | `(tactic| walk_at "r1") => `(tactic| first
  | with_reducible refine k_seq ?_ | with_reducible refine k_asg ?_ | with_reducible refine k_ret ?_ | with_reducible refine k_drop ?_ | with_reducible refine k_next ?_ | with_reducible refine k_ifS ?_
  | ((with_reducible refine' k_var ?e ?_); (case e => exact rfl)) | with_reducible refine k_c ?_ | with_reducible refine k_op ?_ | with_reducible refine k_un ?_ | with_reducible refine k_test ?_ | with_reducible refine k_B ?_
  | with_reducible refine k_and ?_ | with_reducible refine k_or ?_ | with_reducible refine k_not ?_ | with_reducible refine k_andV ?_ | with_reducible refine k_orV ?_ | with_reducible refine k_notV ?_ | with_reducible refine k_if ?_
  | with_reducible refine k_nil ?_ | with_reducible refine k_cons ?_ | with_reducible refine k_tup ?_ | with_reducible refine k_lst ?_ | with_reducible refine k_call ?_ | with_reducible refine k_cb ?_ | with_reducible refine k_ck ?_
  | with_reducible refine k_par ?_ | with_reducible refine k_par1 ?_ | with_reducible refine k_tr ?_ | with_reducible refine k_rI0 ?_ | with_reducible refine k_rU ?_
  | with_reducible refine k_gN ?_ | with_reducible refine k_gS ?_ | with_reducible refine k_gNil ?_ | with_reducible refine k_gCons ?_ | with_reducible refine k_bm0 ?_ | with_reducible refine k_bm ?_
  | with_reducible refine k_for ?_ | with_reducible refine k_iL ?_ | with_reducible refine k_iT ?_ | with_reducible refine k_iR1 ?_ | ((with_reducible refine k_iR1i ?e ?_); (case e => first | decide | exact ⟨by omega, by omega⟩))
  | with_reducible refine k_max ?_ | with_reducible refine k_isB ?_ | with_reducible refine k_sl ?_ | with_reducible refine k_noP ?_ | with_reducible refine k_part ?_ | with_reducible refine k_partI ?_ | with_reducible refine k_revL ?_
  | ((with_reducible refine' k_ixqT ?e ?f ?_); (case e => walk_at "sq"); (case f => first | exact rfl | exact atI_head))
  | ((with_reducible refine' k_ixqL ?e ?f ?_); (case e => walk_at "sq"); (case f => first | exact rfl | exact atI_head))
  | ((with_reducible refine' k_lenL ?e ?_); (case e => walk_at "sq"))
  | ((with_reducible refine' k_lenT ?e ?_); (case e => walk_at "sq"))
  | ((with_reducible refine' k_ixL ?e ?f ?_); (case e => walk_at "sq"); (case f => first | exact rfl | exact atI_head))
  | ((with_reducible refine' k_ixT ?e ?f ?_); (case e => walk_at "sq"); (case f => first | exact rfl | exact atI_head))
  | ((with_reducible refine k_eq ?e ?_); (case e => exact rfl)) | ((with_reducible refine k_ne ?e ?_); (case e => exact rfl))
  | ((with_reducible refine k_rI ?e ?_); (case e => first | assumption | omega | decide | exact ⟨by omega, by omega⟩ | exact .inl ⟨by omega, by omega⟩ | exact .inr ⟨by omega, by omega⟩)))
local macro_rules | `(tactic| walk_at "rd") => `(tactic| repeat walk_at "r1")
local macro_rules | `(tactic| walk_at "r2") => `(tactic| first
  | walk_at "r1"
  | with_reducible refine k_ifTt ?_ | with_reducible refine k_ifFf ?_ | with_reducible refine k_ifNt ?_ | with_reducible refine k_ifNf ?_
  | with_reducible refine k_makeR ?_ | with_reducible refine k_tJ ?_ | with_reducible refine k_tJc ?_ | with_reducible refine k_tJn ?_ | with_reducible refine k_fmt ?_ | with_reducible refine k_lc ?_ | with_reducible refine k_din ?_ | with_reducible refine k_fld ?_ | with_reducible refine k_dget ?_
  | with_reducible refine k_dput ?_
  | with_reducible refine k_isNv ?_
  | with_reducible refine k_notNv ?_
  | with_reducible refine k_str ?_
  | with_reducible refine k_enumT ?_
  | with_reducible refine k_zipA ?_
  | with_reducible refine k_chain ?_
  | ((with_reducible refine' k_dgS ?e dkv_cells ?_); (case e => walk_at "lk"))
  | ((with_reducible refine' k_dgS ?e dkv_mixed ?_); (case e => walk_at "lk"))
  | ((with_reducible refine' k_dgS ?e dkv_turn ?_); (case e => walk_at "lk")))
local macro_rules | `(tactic| walk_at "rr") => `(tactic| repeat walk_at "r2")
-- steps end
section
variable {P : Program} {w : World} {K : PySem.W.Frag} {mg : Str → Option Value} {g0 : Heap} {C N : Addr}
open Classical in
theorem ok_due {f : Addr} {fd : FuncData} (F : Fun K "_law_due" "_law_due" s_due f fd) (C_is_table : Cal P w K mg g0 "_law_is_table" 3 ["_law_it"] spTable)
    (z_enumerate : mg "enumerate" = none) (z_tuple : mg "tuple" = none) (z_sorted : mg "sorted" = none) :
    GOk P w K mg g0 CX0 4 f fd ["_law_some"] spHeard := by
  have nd := sc_due.nd
  refine okG F sc_due (fun vs H Q E h => ?_) (fun cdv A up s H vs Q E qt hr h => ?_)
  · obtain ⟨l, xs, ds, rfl, _⟩ := h
    rfl
  · obtain ⟨l, xs, ds, rfl, hl, hq, ho, lt, k1, k2⟩ := h
    have lx := hq.len
    refine ⟨_, (pss_cons (ps_for PassesOwn.never rfl (pi_enum (by rfl) z_enumerate (pa_cons (pv 0) pa_nil)) (pg_tup rfl (pgs_cons (pg_name (i := 1) nd rfl (Or.inl rfl)) (pgs_cons (pg_name (i := 2) nd rfl (Or.inl rfl)) pgs_nil))) (pss_one (ps_if (PW.pt (pw_or (pt_not (pt_val (pe_c C_is_table qt (hr.mono (by decide)) (pa_cons (pv 2) pa_nil)))) (pw_or1 (pt_cmpR op_in_seq (pe_ix ix_tup (pv 2) pe_int (fun _ _ => rfl)) (pe_lc (own := [("_law_one", 3)]) (g := (gName 3)) (tt := tYes) (te := (tOp _ (tVar 3) (tC (.int 0)))) (by rfl) nd (pi_list (pe_slice sl_list (pv 0) po_none (po_some (pv 1)))) (blkOk_by (own := [("_law_one", 3)]) (N := ["_law_some", "_law_index", "_law_it", "_law_one"]) (sc := defScope s_due) (by decide +kernel)) (fun _ _ _ _ _ => by exact (pg_name (i := 3) nd rfl (Or.inl rfl))) (fun _ _ _ _ _ => by exact pts_nil) (fun _ _ _ _ _ => by exact (pe_ix (ix_tupK (K := K) rfl) (pv 3) pe_int (fun _ _ => rfl)))) (by rfl))))) (pss_one (ps_ret (pe_tup (pa_cons pe_str (pa_cons (pv 1) pa_nil))))) pss_nil)))
        (pss_one (ps_ret (pe_tup (pa_cons pe_str (pa_cons (pe_callTy call_tuple_of (by rfl) z_tuple (by decide +kernel) (pa_cons (pe_callB (call_sortedA hr.units) (by rfl) z_sorted (by decide +kernel) (pa_cons (pv 0) pa_nil)) pa_nil)) pa_nil)))))), ?_⟩
    walk_at "rr"
    let Pv : Nat → L2.St → Hp → Prop := fun i σ H' => ∃ o1 o2, ∃ ti : List AT, σ = [some (.ref l), o1, o2, none] ∧ Same H H' ∧ (∀ j, j < i → ¬ Bad ds j) ∧ (namesOf ti).Nodup ∧ Tabl H (xs.take i) (ds.take i) ti
    refine k_enumL ?_
    walk_at "rr"
    refine ⟨l, xs, rfl, SqL.of hl, for_it (walk_enum (xs := xs)) Pv ⟨none, none, [], rfl, Same.refl _, (fun j z => absurd z (Nat.not_lt_zero _)), List.nodup_nil, rfl, rfl, fun _ z => by cases z⟩ (fun i σ H' _ h => ?_) (fun i x σ H' H'' hi h y => ?_) (fun σ H' h => ?_)⟩
    · obtain ⟨_, _, _, _, s1, _⟩ := h
      exact SqL.of (s1 _ _ hl)
    · obtain ⟨o1, o2, ti, rfl, s1, nb, nn, tb⟩ := h
      obtain ⟨t1, x1, x2, rfl, ht1, rfl, e1, e2⟩ := y
      have e1 : V.int i = x1 := Option.some.inj e1
      have e2 : xs[i]? = some x2 := e2
      obtain ⟨dt, hx, dq⟩ := hq.get e2
      subst e1
      refine k_gTup (SqT.of upd_same) rfl ?_
      walk_at "rr"
      refine ⟨x2, dt, rfl, (dq.same s1).same (Same.upd ht1), ho dt (List.mem_of_getElem? hx), fun H2 s2 => ?_⟩
      have s02 : Same H H2 := (s1.trans (Same.upd ht1)).trans s2
      by_cases ok : IsTab dt
      · rw [decide_eq_true ok]
        have ok2 := ok
        obtain ⟨t0, ok0, rfl⟩ := ok2
        obtain ⟨a0, rfl, tx⟩ := tab_at dq
        walk_at "rr"
        refine k_ixT (SqT.of (s02 _ _ tx.choose_spec.choose_spec.choose_spec.1)) rfl ?_
        walk_at "rr"
        refine k_slL (SqL.of (s02 _ _ hl)) fun p hp => ?_
        rw [cut_to, tb.xs]
        have s3 := s02.trans (Same.upd (o := .lst (refsOf ti)) hp)
        refine ⟨p, rfl, ⟨_, SqL.of upd_same⟩, fun D hD => ?_⟩
        have lti : ti.length ≤ 5 := by
          have := congrArg List.length tb.ds
          rw [List.length_map, List.length_take] at this
          omega
        have lr : (refsOf ti).length = ti.length := List.length_map ..
        refine lc_same (walk_list (xs := refsOf ti)) (fun k => match ti[k]? with | some x => .str x.2.nm | none => .non) (fun _ => true) (by omega) hD (fun H5 s5 => SqL.of (s5 _ _ upd_same)) (fun k x H5 H6 hk5 s5 y Q1 R1 q1 _ => ?_) fun H5 s5 hD1 => ?_
        · obtain ⟨rfl, y⟩ := y
          have e : (refsOf ti)[k]? = some x := y
          unfold refsOf at e
          rw [List.getElem?_map] at e
          obtain ⟨z, hz, rfl⟩ := Option.map_eq_some_iff.mp e
          rw [hz] at q1
          have q1 : true = true → ∀ H4, Same H6 H4 → Q1 (.str z.2.nm) H4 := q1
          walk_at "rr"
          refine ⟨rfl, k_yes ?_⟩
          walk_at "rr"
          have tz := (tb.ok z (List.mem_of_getElem? hz)).1
          refine k_ixT (SqT.of (s5 _ _ (s3 _ _ tz.choose_spec.choose_spec.choose_spec.1))) rfl ?_
          exact q1 rfl _ (Same.refl _)
        · rw [range_all, lr, range_get ti _ (fun x => V.str x.2.nm) (fun k x e => by rw [e])] at hD1
          have hD2 : H5 D = some (.lst ((namesOf ti).map V.str)) := by
            rw [hD1]
            unfold namesOf
            rw [List.map_map]
            rfl
          have s35 := s3.trans s5
          walk_at "rr"
          refine ⟨_, _, rfl, .inl (SqL.of hD2), rfl, L2.flat_strs _, ?_⟩
          rw [if_neg (by decide), inV_strs]
          by_cases fresh : t0.nm ∈ namesOf ti
          · rw [decide_eq_true fresh]
            walk_at "rr"
            refine ⟨k_sz rfl, fun r hr2 => ?_⟩
            walk_at "rr"
            exact k2 i ⟨_, hx, .inr (by rw [tb.names]; exact fresh)⟩ nb r _ (s35.trans (Same.upd hr2)) upd_same
          · rw [decide_eq_false fresh]
            walk_at "rr"
            have tke : xs.take (i + 1) = xs.take i ++ [.ref a0] := by
              rw [List.take_add_one, e2]
              rfl
            have tkd : ds.take (i + 1) = ds.take i ++ [t0.data] := by
              rw [List.take_add_one, hx]
              rfl
            refine ⟨_, _, ti ++ [(a0, t0)], rfl, s35, fun j hj => ?_, ?_, by rw [tke, tkd]; exact tb.snoc (x := (a0, t0)) tx ok0⟩
            · by_cases e : j = i
              · subst e
                rintro ⟨y, hy, b⟩
                rw [hx] at hy
                obtain rfl := Option.some.inj hy
                exact b.elim (fun z => z ok) fun z => fresh (by rw [← tb.names]; exact z)
              · exact nb j (by omega)
            · unfold namesOf at nn fresh ⊢
              rw [List.map_append]
              refine List.nodup_append.mpr ⟨nn, by simp, fun a ha b hb e => ?_⟩
              rw [List.map_singleton, List.mem_singleton] at hb
              rw [e, hb] at ha
              exact fresh ha
      · rw [decide_eq_false ok]
        walk_at "rr"
        refine ⟨k_sz rfl, fun r hr2 => ?_⟩
        walk_at "rr"
        exact k2 i ⟨dt, hx, .inl ok⟩ nb r _ (s02.trans (Same.upd hr2)) upd_same
    · obtain ⟨o1, o2, ti, rfl, s1, nb, nn, tb⟩ := h
      rw [List.take_length, lx, List.take_length] at tb
      rw [lx] at nb
      have good : ∀ i, ¬ Bad ds i := fun i b => by
        obtain ⟨y, hy, b2⟩ := b
        exact nb i (List.getElem?_eq_some_iff.mp hy).1 ⟨y, hy, b2⟩
      walk_at "rr"
      have lt2 : ti.length ≤ 1000 := by
        have := congrArg List.length tb.ds
        rw [List.length_map] at this
        omega
      refine sorted_of (by rw [← tb.xs]; exact s1 _ _ hl) (fun x hx => (tb.ok x hx).1.same s1) nn lt2 fun zs p hp pm az => ?_
      walk_at "rr"
      refine ⟨p, refsOf zs, rfl, .inl ⟨SqL.of upd_same, fun t ht => ?_⟩⟩
      walk_at "rr"
      refine ⟨k_sz rfl, fun r hr2 => ?_⟩
      walk_at "rr"
      have s2 := ((s1.trans (Same.upd (o := .lst (refsOf zs)) hp)).trans (Same.upd (o := .tup (refsOf zs)) ht)).trans (Same.upd (o := .tup [.str "made", .ref t]) hr2)
      exact k1 good r _ s2 ⟨t, ti, zs, tb, pm, az, upd_same, Same.upd hr2 _ _ upd_same, fun x hx => ⟨(tb.ok x (pm.mem_iff.mp hx)).1.same s2, (tb.ok x (pm.mem_iff.mp hx)).2⟩⟩
end
end K01.L

set_option Elab.async false
set_option maxRecDepth 100000
set_option maxHeartbeats 4000000
set_option linter.unusedVariables false
namespace Own
open PySem PySem.Spec PyProof.Rows L2 SeqAt
/-- two lists of the same texts -/
def rEqLS (K : PySem.W.Frag) : R2 := fun x y H Q => ∃ (a b : Addr) (zs : List Str), x = .ref a ∧ y = .ref b ∧ SqL K H a (zs.map V.str) ∧ SqL K H b (zs.map V.str) ∧ Q (.bl true) H
theorem op_eqLS {X : Cx} (hu : X.A.units + 64 < cLine) : OpR X (compareOp .Eq) (rEqLS X.K) := by
  intro pins s σ H x y v u Q I rx ry h
  obtain ⟨a, b, zs, rfl, rfl, ha, hb, q⟩ := h
  obtain rfl : v = Value.ref a := rx
  obtain rfl : u = Value.ref b := ry
  obtain ⟨its, r0, hl⟩ := is_list I ha
  obtain ⟨js, r1, hr⟩ := is_list I hb
  have e1 := r0.length
  have e2 := r1.length
  refine RcAt.lists (e := fun _ => true) hl hr (by rw [List.size_toArray, List.size_toArray]; omega) (by omega) (fun j h1 h2 => ?_) _ _ _ _ ⟨.bl true, H, I, ?_, q⟩
  · have hj : j < zs.length := by
      rw [List.size_toArray, ← e1, List.length_map] at h1
      exact h1
    have hx : (zs.map V.str)[j]? = some (V.str zs[j]) := by rw [List.getElem?_map, List.getElem?_eq_getElem hj]; rfl
    obtain ⟨v1, g1, ⟨t1, rfl⟩⟩ := r0.get hx
    obtain ⟨v2, g2, ⟨t2, rfl⟩⟩ := r1.get hx
    have k1 : its.toArray[j] = Value.str zs[j] t1 := by
      have := (List.getElem?_eq_some_iff.mp g1).2
      simpa using this
    have k2 : js.toArray[j] = Value.str zs[j] t2 := by
      have := (List.getElem?_eq_some_iff.mp g2).2
      simpa using this
    rw [k1, k2]
    have := EqAt.str_str (A := X.A.in1) (s := s) zs[j] t1 zs[j] t2
    rw [beq_self_eq_true] at this
    exact this
  · show Value.bool ((List.range its.toArray.size).all fun _ => true) = Value.bool true
    rw [List.all_eq_true.mpr fun _ _ => rfl]
end Own
namespace K01.L
open PySem PySem.Spec PyProof.Rows L2 Own StX
-- steps
local macro_rules | `(tactic| walk_at "lk") => `(tactic| first
  | assumption | exact upd_same
  | ((with_reducible refine' lk_new ?e (by assumption)); (case e => walk_at "lk"))
  | ((with_reducible refine' lk_ext (by assumption) ?e); (case e => walk_at "lk"))
  | ((with_reducible refine' lk_same (by assumption) ?e); (case e => walk_at "lk")))
local macro_rules | `(tactic| walk_at "sq") => `(tactic| first | assumption | exact SqL.of (by walk_at "lk") | exact SqT.of (by walk_at "lk"))
local macro_rules | `(tactic| walk_at "r1") => `(tactic| first
  | with_reducible refine k_seq ?_ | with_reducible refine k_asg ?_ | with_reducible refine k_ret ?_ | with_reducible refine k_drop ?_ | with_reducible refine k_next ?_ | with_reducible refine k_ifS ?_
  | ((with_reducible refine' k_var ?e ?_); (case e => exact rfl)) | with_reducible refine k_c ?_ | with_reducible refine k_op ?_ | with_reducible refine k_un ?_ | with_reducible refine k_test ?_ | with_reducible refine k_B ?_
  | with_reducible refine k_and ?_ | with_reducible refine k_or ?_ | with_reducible refine k_not ?_ | with_reducible refine k_andV ?_ | with_reducible refine k_orV ?_ | with_reducible refine k_notV ?_ | with_reducible refine k_if ?_
  | with_reducible refine k_nil ?_ | with_reducible refine k_cons ?_ | with_reducible refine k_tup ?_ | with_reducible refine k_lst ?_ | with_reducible refine k_call ?_ | with_reducible refine k_cb ?_ | with_reducible refine k_ck ?_
  | with_reducible refine k_par ?_ | with_reducible refine k_par1 ?_ | with_reducible refine k_tr ?_ | with_reducible refine k_rI0 ?_ | with_reducible refine k_rU ?_
  | with_reducible refine k_gN ?_ | with_reducible refine k_gS ?_ | with_reducible refine k_gNil ?_ | with_reducible refine k_gCons ?_ | with_reducible refine k_bm0 ?_ | with_reducible refine k_bm ?_
  | with_reducible refine k_for ?_ | with_reducible refine k_iL ?_ | with_reducible refine k_iT ?_ | with_reducible refine k_iR1 ?_ | ((with_reducible refine k_iR1i ?e ?_); (case e => first | decide | exact ⟨by omega, by omega⟩))
  | with_reducible refine k_max ?_ | with_reducible refine k_isB ?_ | with_reducible refine k_sl ?_ | with_reducible refine k_noP ?_ | with_reducible refine k_part ?_ | with_reducible refine k_partI ?_ | with_reducible refine k_revL ?_
  | ((with_reducible refine' k_ixqT ?e ?f ?_); (case e => walk_at "sq"); (case f => first | exact rfl | exact atI_head))
  | ((with_reducible refine' k_ixqL ?e ?f ?_); (case e => walk_at "sq"); (case f => first | exact rfl | exact atI_head))
  | ((with_reducible refine' k_lenL ?e ?_); (case e => walk_at "sq"))
  | ((with_reducible refine' k_lenT ?e ?_); (case e => walk_at "sq"))
  | ((with_reducible refine' k_ixL ?e ?f ?_); (case e => walk_at "sq"); (case f => first | exact rfl | exact atI_head))
  | ((with_reducible refine' k_ixT ?e ?f ?_); (case e => walk_at "sq"); (case f => first | exact rfl | exact atI_head))
  | ((with_reducible refine k_eq ?e ?_); (case e => exact rfl)) | ((with_reducible refine k_ne ?e ?_); (case e => exact rfl))
  | ((with_reducible refine k_rI ?e ?_); (case e => first | assumption | omega | decide | exact ⟨by omega, by omega⟩ | exact .inl ⟨by omega, by omega⟩ | exact .inr ⟨by omega, by omega⟩)))
local macro_rules | `(tactic| walk_at "rd") => `(tactic| repeat walk_at "r1")
local macro_rules | `(tactic| walk_at "r2") => `(tactic| first
  | walk_at "r1"
  | with_reducible refine k_ifTt ?_ | with_reducible refine k_ifFf ?_ | with_reducible refine k_ifNt ?_ | with_reducible refine k_ifNf ?_
  | with_reducible refine k_makeR ?_ | with_reducible refine k_tJ ?_ | with_reducible refine k_tJc ?_ | with_reducible refine k_tJn ?_ | with_reducible refine k_fmt ?_ | with_reducible refine k_lc ?_ | with_reducible refine k_din ?_ | with_reducible refine k_fld ?_ | with_reducible refine k_dget ?_
  | with_reducible refine k_dput ?_
  | with_reducible refine k_isNv ?_
  | with_reducible refine k_notNv ?_
  | with_reducible refine k_str ?_
  | with_reducible refine k_enumT ?_
  | with_reducible refine k_zipA ?_
  | with_reducible refine k_chain ?_
  | ((with_reducible refine' k_dgS ?e dkv_cells ?_); (case e => walk_at "lk"))
  | ((with_reducible refine' k_dgS ?e dkv_mixed ?_); (case e => walk_at "lk"))
  | ((with_reducible refine' k_dgS ?e dkv_turn ?_); (case e => walk_at "lk")))
local macro_rules | `(tactic| walk_at "rr") => `(tactic| repeat walk_at "r2")
-- steps end
theorem data_inj {a b : T} (h : a.data = b.data) : a = b := by
  have e := eqv_T a b
  have e2 := eqv_T a a
  rw [← h, e2] at e
  exact of_decide_eq_true (by rw [← e]; exact decide_eq_true rfl)
theorem datas_inj : ∀ {l m : List T}, l.map T.data = m.map T.data → l = m
  | [], [], _ => rfl
  | a :: l, b :: m, h => by
    rw [List.map_cons, List.map_cons] at h
    injection h with h1 h2
    rw [data_inj h1, datas_inj h2]
  | [], _ :: _, h => by cases h
  | _ :: _, [], h => by cases h
/-- what is due, as data -/
def IsRes (ds : List PyData) (r : PyData) : Prop :=
  (∃ ts us : List T, ds = ts.map T.data ∧ (∀ i, ¬ Bad ds i) ∧ us.Perm ts ∧ (us.map (·.nm)).Pairwise sLt ∧ r = .tuple [.str "made", .tuple (us.map T.data)]) ∨
  (∃ i : Nat, Bad ds i ∧ (∀ j, j < i → ¬ Bad ds j) ∧ r = .tuple [.str "index", .int i])
theorem res_uniq {ds : List PyData} {a b : PyData} (h : IsRes ds a) (k : IsRes ds b) : a = b := by
  rcases h with ⟨ts, us, e, g, p, s, rfl⟩ | ⟨i, bi, fi, rfl⟩
  · rcases k with ⟨ts2, us2, e2, g2, p2, s2, rfl⟩ | ⟨i, bi, _, _⟩
    · have et : ts = ts2 := datas_inj (e.symm.trans e2)
      subst et
      rw [sort_eq (p.trans p2.symm) s s2]
    · exact absurd bi (g i)
  · rcases k with ⟨_, _, _, g, _⟩ | ⟨j, bj, fj, rfl⟩
    · exact absurd bi (g i)
    · have : i = j := by
        rcases Nat.lt_trichotomy i j with h | h | h
        · exact absurd bi (fj i h)
        · exact h
        · exact absurd bj (fi j h)
      rw [this]
theorem made_res {H H' : Hp} {xs : List V} {ds : List PyData} {r : Addr} (g : ∀ i, ¬ Bad ds i) (m : Made H xs ds r H') : ∃ dd, Dq H' (.ref r) dd ∧ IsRes ds dd := by
  obtain ⟨t, ts, zs, tb, pm, az, hr, ht, hz⟩ := m
  have all : ∀ zs : List AT, (∀ x ∈ zs, TAt H' x.1 x.2 ∧ x.2.Ok) → DqAll H' (refsOf zs) ((zs.map (·.2)).map T.data) := fun zs => by
    induction zs with
    | nil => exact fun _ => .nil
    | cons z zs ih => exact fun h => .cons (h z List.mem_cons_self).1.dq (ih fun x hx => h x (List.mem_cons_of_mem _ hx))
  refine ⟨_, .tup hr (.cons (.str _) (.cons (.tup ht (all zs hz)) .nil)), .inl ⟨ts.map (·.2), zs.map (·.2), by rw [tb.ds, List.map_map]; rfl, g, pm.map _, ?_, rfl⟩⟩
  rw [List.map_map]
  exact az
theorem ix_res {H' : Hp} {ds : List PyData} {r : Addr} {i : Nat} (b : Bad ds i) (f : ∀ j, j < i → ¬ Bad ds j) (hr : H' r = some (.tup [.str "index", .int i])) : ∃ dd, Dq H' (.ref r) dd ∧ IsRes ds dd :=
  ⟨_, .tup hr (.cons (.str _) (.cons (.int _) .nil)), .inr ⟨i, b, f, rfl⟩⟩
theorem fa_all : ∀ {ds : List PyData}, (∀ d ∈ ds, Ok1 d) → FA 1000 (4001 * ds.length) 50 ds
  | [], _ => FA.nil
  | d :: ds, h => (FA.cons (h d List.mem_cons_self) (fa_all fun x hx => h x (List.mem_cons_of_mem _ hx))).mono (Nat.le_refl _) (by simp only [List.length_cons]; omega) (Nat.le_refl _)
theorem res_rep {ds : List PyData} {r : PyData} (h : IsRes ds r) (ho : ∀ d ∈ ds, Ok1 d) (lt : ds.length ≤ 5) : RepD r := by
  rcases h with ⟨ts, us, e, g, p, s, rfl⟩ | ⟨i, bi, fi, rfl⟩
  · have hu : ∀ d ∈ us.map T.data, Ok1 d := fun d hd => by
      obtain ⟨x, hx, rfl⟩ := List.mem_map.mp hd
      exact ho _ (by rw [e]; exact List.mem_map.mpr ⟨x, p.mem_iff.mp hx, rfl⟩)
    have lu : us.length = ds.length := by rw [e, List.length_map, p.length_eq]
    have f := fa_all hu
    rw [List.length_map, lu] at f
    exact FD.rep (W := 50000) (D := 60) ((FD.tup (FA.cons (W := 100) (D := 51) (FD.text (z := Str.ofString "made") (by decide +kernel) (by decide +kernel)) (FA.cons (FD.tup f) FA.nil))).mono (Nat.le_refl _) (by omega) (by decide)) (Nat.le_refl _) (by decide) (by decide)
  · have li : i < ds.length := by
      obtain ⟨d, hd, _⟩ := bi
      exact (List.getElem?_eq_some_iff.mp hd).1
    have fi2 : FD 1000 200 51 (.int (i : Int)) := FD.num (by
      show (i : Int).natAbs ≤ far 1000
      have : far 1000 = 10 ^ 40 + 1000 * 10 ^ 31 := rfl
      have k : 5 ≤ 10 ^ 40 + 1000 * 10 ^ 31 := by decide +kernel
      omega) (Nat.le_refl _) (Nat.le_refl _)
    exact FD.rep (W := 50000) (D := 60) ((FD.tup (FA.cons (W := 100) (D := 51) (FD.text (z := Str.ofString "index") (by decide +kernel) (by decide +kernel)) (FA.cons fi2 FA.nil))).mono (Nat.le_refl _) (by omega) (by decide)) (Nat.le_refl _) (by decide) (by decide)
section
variable {P : Program} {w : World} {K : PySem.W.Frag} {mg : Str → Option Value} {g0 : Heap} {C N : Addr}
abbrev s_right : Stmt := top 37
theorem sc_right : FnScope ["_law_some", "_law_due_here", "_law_kept"] ["_law_some"] (defScope s_right) :=
  ⟨rfl, rfl, rfl, by decide +kernel, rfl, by decide +kernel, by decide +kernel⟩
def spRight : Sp := fun vs H Q _ => ∃ (l : Addr) (xs : List V) (ds : List PyData), vs = [.ref l] ∧ H l = some (.lst xs) ∧ DqAll H xs ds ∧ (∀ d ∈ ds, Ok1 d) ∧ ds.length ≤ 5 ∧ ∀ H', Same H H' → Q (.bl true) H'
/-- both ways of it -/
theorem heard_of {H : Hp} {l : Addr} {xs : List V} {ds : List PyData} {Q : VK} {E : XK} (hl : H l = some (.lst xs)) (hq : DqAll H xs ds) (ho : ∀ d ∈ ds, Ok1 d) (lt : ds.length ≤ 5)
    (k : ∀ r dd H', Same H H' → Dq H' (.ref r) dd → IsRes ds dd → Q (.ref r) H') : spHeard [.ref l] H Q E :=
  ⟨l, xs, ds, rfl, hl, hq, ho, lt, fun g r H' s m => by
    obtain ⟨dd, a, b⟩ := made_res g m
    exact k r dd H' s a b, fun i b f r H' s hr => by
    obtain ⟨dd, a, c⟩ := ix_res b f hr
    exact k r dd H' s a c⟩
theorem ok_right {f : Addr} {fd : FuncData} (F : Fun K "_law_right" "_law_right" s_right f fd) (O1 : One K) (C_due : Cal P w K mg g0 "_law_due" 4 ["_law_some"] spHeard) (C_heard : Cal P w K mg g0 "_law_heard" 7 ["_law_some"] spHeard)
    (z_repr : mg "repr" = none) : GOk P w K mg g0 CX0 8 f fd ["_law_some"] spRight := by
  have nd := sc_right.nd
  refine okG F sc_right (fun vs H Q E h => ?_) (fun cdv A up s H vs Q E qt hr h => ?_)
  · obtain ⟨l, xs, ds, rfl, _⟩ := h
    rfl
  · obtain ⟨l, xs, ds, rfl, hl, hq, ho, lt, k⟩ := h
    refine ⟨_, (pss_cons (ps_par (i := 1) (j := 2) (by rfl) nd rfl rfl (by decide) rfl rfl (pa_cons (pe_callB (call_reprQ qt hr.units O1) (by rfl) z_repr (by decide +kernel) (pa_cons (pe_c C_due qt (hr.mono (by decide)) (pa_cons (pv 0) pa_nil)) pa_nil)) (pa_cons (pe_callB (call_reprQ qt hr.units O1) (by rfl) z_repr (by decide +kernel) (pa_cons (pv 0) pa_nil)) pa_nil)) (by rfl))
        (pss_one (ps_ret (pe_cmpR (op_eqLS hr.units) (pe_lst (pa_cons (pe_callB (call_reprQ qt hr.units O1) (by rfl) z_repr (by decide +kernel) (pa_cons (pe_c C_heard qt (hr.mono (by decide)) (pa_cons (pv 0) pa_nil)) pa_nil)) (pa_cons (pe_callB (call_reprQ qt hr.units O1) (by rfl) z_repr (by decide +kernel) (pa_cons (pe_c C_heard qt (hr.mono (by decide)) (pa_cons (pv 0) pa_nil)) pa_nil)) (pa_cons (pe_callB (call_reprQ qt hr.units O1) (by rfl) z_repr (by decide +kernel) (pa_cons (pv 0) pa_nil)) pa_nil)))) (pe_lst (pa_cons (pv 1) (pa_cons (pv 1) (pa_cons (pv 2) pa_nil)))) (nomark _))))), ?_⟩
    have rl : RepD (.list ds) := FD.rep (W := 50000) (D := 60) ((FD.lst (fa_all ho)).mono (Nat.le_refl _) (by omega) (by decide)) (Nat.le_refl _) (by decide) (by decide)
    walk_at "rr"
    refine heard_of hl hq ho lt fun r dd H1 s1 dq ir => ?_
    walk_at "rr"
    refine ⟨.ref r, dd, rfl, dq, res_rep ir ho lt, ?_⟩
    walk_at "rr"
    refine ⟨.ref l, .list ds, rfl, .lst (s1 _ _ hl) (hq.same s1), rl, ?_⟩
    walk_at "rr"
    refine heard_of (s1 _ _ hl) (hq.same s1) ho lt fun r2 dd2 H2 s2 dq2 ir2 => ?_
    obtain rfl := res_uniq ir ir2
    walk_at "rr"
    refine ⟨.ref r2, dd, rfl, dq2, res_rep ir ho lt, ?_⟩
    walk_at "rr"
    have s12 := s1.trans s2
    refine heard_of (s12 _ _ hl) (hq.same s12) ho lt fun r3 dd3 H3 s3 dq3 ir3 => ?_
    obtain rfl := res_uniq ir ir3
    walk_at "rr"
    refine ⟨.ref r3, dd, rfl, dq3, res_rep ir ho lt, ?_⟩
    walk_at "rr"
    have s13 := s12.trans s3
    refine ⟨.ref l, .list ds, rfl, .lst (s13 _ _ hl) (hq.same s13), rl, ?_⟩
    walk_at "rr"
    refine ⟨k_sz rfl, fun p hp => ?_⟩
    walk_at "rr"
    refine ⟨k_sz rfl, fun p2 hp2 => ?_⟩
    walk_at "rr"
    refine ⟨p, p2, [dd.shown, dd.shown, (PyData.list ds).shown], rfl, rfl, SqL.of (Same.upd hp2 _ _ upd_same), SqL.of upd_same, ?_⟩
    exact k _ ((s13.trans (Same.upd hp)).trans (Same.upd hp2))
end
end K01.L

set_option Elab.async false
set_option maxRecDepth 100000
set_option maxHeartbeats 4000000
set_option linter.unusedVariables false
namespace Own
open PySem PySem.Spec PyProof.Rows L2
/-! ### data off the deck -/
mutual
inductive Dn (M : Addr → Prop) (H : Hp) : V → PyData → Prop
  | non : Dn M H .non .none
  | bl (b : Bool) : Dn M H (.bl b) (.bool b)
  | int (i : Int) : Dn M H (.int i) (.int i)
  | str (x : Str) : Dn M H (.str x) (.str x)
  | lst {a : Addr} {xs : List V} {ds : List PyData} : H a = some (.lst xs) → ¬ M a → DnAll M H xs ds → Dn M H (.ref a) (.list ds)
  | tup {a : Addr} {xs : List V} {ds : List PyData} : H a = some (.tup xs) → DnAll M H xs ds → Dn M H (.ref a) (.tuple ds)
  | d0 {p : Addr} : H p = some (.dK []) → ¬ M p → Dn M H (.ref p) (.dict [])
  | d1 {p : Addr} : H p = some (.dK [(keyA, .int 1)]) → ¬ M p → Dn M H (.ref p) (.dict [(.str (Str.ofString "a"), .int 1)])
inductive DnAll (M : Addr → Prop) (H : Hp) : List V → List PyData → Prop
  | nil : DnAll M H [] []
  | cons {v : V} {vs : List V} {d : PyData} {ds : List PyData} : Dn M H v d → DnAll M H vs ds → DnAll M H (v :: vs) (d :: ds)
end
mutual
theorem Dn.dq {M : Addr → Prop} {H : Hp} : ∀ {d : PyData} {v : V}, Dn M H v d → Dq H v d
  | .none, _, .non => .non
  | .bool _, _, .bl b => .bl b
  | .int _, _, .int i => .int i
  | .str _, _, .str x => .str x
  | .list _, _, .lst h _ a => .lst h (DnAll.dq a)
  | .tuple _, _, .tup h a => .tup h (DnAll.dq a)
  | .dict [], _, .d0 h _ => .d0 h
  | .dict [_], _, .d1 h _ => .d1 h
theorem DnAll.dq {M : Addr → Prop} {H : Hp} : ∀ {ds : List PyData} {vs : List V}, DnAll M H vs ds → DqAll H vs ds
  | [], _, .nil => .nil
  | _ :: _, _, .cons a b => .cons (Dn.dq a) (DnAll.dq b)
end
mutual
theorem Dn.ext {M : Addr → Prop} {H H' : Hp} (s : Ext M H H') : ∀ {d : PyData} {v : V}, Dn M H v d → Dn M H' v d
  | .none, _, .non => .non
  | .bool _, _, .bl b => .bl b
  | .int _, _, .int i => .int i
  | .str _, _, .str x => .str x
  | .list _, _, .lst h m a => .lst (s.2 _ _ m h) m (DnAll.ext s a)
  | .tuple _, _, .tup h a => .tup (s.1 _ _ h) (DnAll.ext s a)
  | .dict [], _, .d0 h m => .d0 (s.2 _ _ m h) m
  | .dict [_], _, .d1 h m => .d1 (s.2 _ _ m h) m
theorem DnAll.ext {M : Addr → Prop} {H H' : Hp} (s : Ext M H H') : ∀ {ds : List PyData} {vs : List V}, DnAll M H vs ds → DnAll M H' vs ds
  | [], _, .nil => .nil
  | _ :: _, _, .cons a b => .cons (Dn.ext s a) (DnAll.ext s b)
end
theorem DnAll.app {M : Addr → Prop} {H : Hp} : ∀ {ds es : List PyData} {vs ws : List V}, DnAll M H vs ds → DnAll M H ws es → DnAll M H (vs ++ ws) (ds ++ es)
  | [], _, _, _, .nil, h => h
  | _ :: _, _, _, _, .cons a b, h => .cons a (b.app h)
theorem DnAll.take {M : Addr → Prop} {H : Hp} : ∀ {ds : List PyData} {vs : List V} (n : Nat), DnAll M H vs ds → DnAll M H (vs.take n) (ds.take n)
  | _, _, 0, _ => .nil
  | [], _, _ + 1, .nil => .nil
  | _ :: _, _, n + 1, .cons a b => .cons a (b.take n)
theorem DnAll.drop {M : Addr → Prop} {H : Hp} : ∀ {ds : List PyData} {vs : List V} (n : Nat), DnAll M H vs ds → DnAll M H (vs.drop n) (ds.drop n)
  | _, _, 0, h => h
  | [], _, _ + 1, .nil => .nil
  | _ :: _, _, n + 1, .cons _ b => b.drop n
theorem DnAll.rev {M : Addr → Prop} {H : Hp} : ∀ {ds : List PyData} {vs : List V}, DnAll M H vs ds → DnAll M H vs.reverse ds.reverse
  | [], _, .nil => .nil
  | _ :: _, _, .cons a b => by
    rw [List.reverse_cons, List.reverse_cons]
    exact b.rev.app (.cons a .nil)
theorem DnAll.get {M : Addr → Prop} {H : Hp} : ∀ {ds : List PyData} {vs : List V} {i : Nat} {v : V}, DnAll M H vs ds → vs[i]? = some v → ∃ d, ds[i]? = some d ∧ Dn M H v d
  | _ :: _, _ :: _, 0, v, .cons a _, e => by
    obtain rfl : _ = v := Option.some.inj e
    exact ⟨_, rfl, a⟩
  | _ :: _, _ :: _, i + 1, v, .cons _ b, e => b.get (i := i) (v := v) e
  | [], [], i, v, .nil, e => by simp at e
mutual
theorem Dn.weak {M M' : Addr → Prop} {H : Hp} (w : ∀ a, M' a → M a) : ∀ {d : PyData} {v : V}, Dn M H v d → Dn M' H v d
  | .none, _, .non => .non
  | .bool _, _, .bl b => .bl b
  | .int _, _, .int i => .int i
  | .str _, _, .str x => .str x
  | .list _, _, .lst h m a => .lst h (fun z => m (w _ z)) (DnAll.weak w a)
  | .tuple _, _, .tup h a => .tup h (DnAll.weak w a)
  | .dict [], _, .d0 h m => .d0 h fun z => m (w _ z)
  | .dict [_], _, .d1 h m => .d1 h fun z => m (w _ z)
theorem DnAll.weak {M M' : Addr → Prop} {H : Hp} (w : ∀ a, M' a → M a) : ∀ {ds : List PyData} {vs : List V}, DnAll M H vs ds → DnAll M' H vs ds
  | [], _, .nil => .nil
  | _ :: _, _, .cons a b => .cons (Dn.weak w a) (DnAll.weak w b)
end
/-- a value of such a size; values of such a size in all -/
def Va (M : Addr → Prop) (n W D : Nat) (H : Hp) (v : V) : Prop := ∃ d, Dn M H v d ∧ FD n W D d
def Vs (M : Addr → Prop) (n W D : Nat) (H : Hp) (vs : List V) : Prop := ∃ ds, DnAll M H vs ds ∧ FA n W D ds
section
variable {M : Addr → Prop} {n n' W W' D D' : Nat} {H H' : Hp} {v : V} {vs ws : List V} {a : Addr}
theorem Va.ext (h : Va M n W D H v) (s : Ext M H H') : Va M n W D H' v := by
  obtain ⟨d, a, b⟩ := h
  exact ⟨d, a.ext s, b⟩
theorem Va.same (h : Va M n W D H v) (s : Same H H') : Va M n W D H' v := h.ext (Own.Same.ext s)
theorem Vs.ext (h : Vs M n W D H vs) (s : Ext M H H') : Vs M n W D H' vs := by
  obtain ⟨d, a, b⟩ := h
  exact ⟨d, a.ext s, b⟩
theorem Vs.same (h : Vs M n W D H vs) (s : Same H H') : Vs M n W D H' vs := h.ext (Own.Same.ext s)
theorem Va.mono (h : Va M n W D H v) (h1 : n ≤ n') (h2 : W ≤ W') (h3 : D ≤ D') : Va M n' W' D' H v := by
  obtain ⟨d, a, b⟩ := h
  exact ⟨d, a, b.mono h1 h2 h3⟩
theorem Vs.mono (h : Vs M n W D H vs) (h1 : n ≤ n') (h2 : W ≤ W') (h3 : D ≤ D') : Vs M n' W' D' H vs := by
  obtain ⟨d, a, b⟩ := h
  exact ⟨d, a, b.mono h1 h2 h3⟩
theorem Vs.weak {M' : Addr → Prop} (h : Vs M n W D H vs) (w : ∀ a, M' a → M a) : Vs M' n W D H vs := by
  obtain ⟨d, a, b⟩ := h
  exact ⟨d, a.weak w, b⟩
theorem Vs.nil : Vs M n 0 D H [] := ⟨[], .nil, FA.nil⟩
theorem Vs.cons (h : Va M n W D H v) (k : Vs M n W' D H vs) : Vs M n (W + 1 + W') D H (v :: vs) := by
  obtain ⟨d, a, b⟩ := h
  obtain ⟨e, c, f⟩ := k
  exact ⟨d :: e, .cons a c, FA.cons b f⟩
theorem Vs.app (h : Vs M n W D H vs) (k : Vs M n W' D H ws) : Vs M n (W + W') D H (vs ++ ws) := by
  obtain ⟨d, a, b⟩ := h
  obtain ⟨e, c, f⟩ := k
  exact ⟨d ++ e, a.app c, b.app f⟩
theorem Vs.take (h : Vs M n W D H vs) (i : Nat) : Vs M n W D H (vs.take i) := by
  obtain ⟨d, a, b⟩ := h
  exact ⟨_, a.take i, b.take i⟩
theorem Vs.drop (h : Vs M n W D H vs) (i : Nat) : Vs M n W D H (vs.drop i) := by
  obtain ⟨d, a, b⟩ := h
  exact ⟨_, a.drop i, b.drop i⟩
theorem Vs.rev (h : Vs M n W D H vs) : Vs M n W D H vs.reverse := by
  obtain ⟨d, a, b⟩ := h
  exact ⟨_, a.rev, b.rev⟩
theorem Vs.get {i : Nat} (h : Vs M n W D H vs) (e : vs[i]? = some v) : Va M n W D H v := by
  obtain ⟨d, a, b⟩ := h
  obtain ⟨x, h1, h2⟩ := a.get e
  exact ⟨x, h2, FD.get b h1⟩
/-- one taken out: its weight and what is left -/
theorem Vs.at {i : Nat} (h : Vs M n W D H vs) (e : vs[i]? = some v) : ∃ w, w + 1 ≤ W ∧ Va M n w D H v ∧ ∃ ds es, DnAll M H (vs.take i) ds ∧ DnAll M H (vs.drop (i + 1)) es ∧ FA n (W - w - 1) D (ds ++ es) := by
  obtain ⟨d, a, b⟩ := h
  obtain ⟨x, h1, h2⟩ := a.get e
  obtain ⟨f1, f2, f3⟩ := b.at h1
  exact ⟨x.weight, f2, ⟨x, h2, f1⟩, d.take i, d.drop (i + 1), a.take i, a.drop (i + 1), f3⟩
theorem Vs.tup (h : Vs M n W D H vs) (e : H a = some (.tup vs)) : Va M n W (D + 1) H (.ref a) := by
  obtain ⟨d, q, f⟩ := h
  exact ⟨.tuple d, .tup e q, FD.tup f⟩
theorem Vs.lst (h : Vs M n W D H vs) (e : H a = some (.lst vs)) (m : ¬ M a) : Va M n W (D + 1) H (.ref a) := by
  obtain ⟨d, q, f⟩ := h
  exact ⟨.list d, .lst e m q, FD.lst f⟩
theorem va_non : Va M n W D H .non := ⟨.none, .non, rfl, Nat.zero_le _, Nat.zero_le _⟩
theorem va_bl {b : Bool} : Va M n W D H (.bl b) := ⟨.bool b, .bl b, rfl, Nat.zero_le _, Nat.zero_le _⟩
theorem va_int {i : Int} (h : i.natAbs ≤ far n) (hn : n ≤ 1000) (l : 200 ≤ W) : Va M n W D H (.int i) := ⟨.int i, .int i, FD.num h hn l⟩
theorem va_str {z : Str} (h : Asc z) (l : z.length ≤ W) : Va M n W D H (.str z) := ⟨.str z, .str z, FD.text h l⟩
end
theorem rv_any {X : Cx} {K : PySem.W.Frag} (h : X.K = K) : RvR X (fun x H Q => rRvS x H Q ∨ rRvT K x H Q) := by
  subst h
  intro pins s σ H x v vs sl Q I rx hs ps q
  rcases q with q | q
  · exact rv_str pins s σ H x v vs sl Q I rx hs ps q
  · exact rv_tup pins s σ H x v vs sl Q I rx hs ps q
theorem k_rv {r : V → Hp → VK → Prop} {te : TE} {σ : L2.St} {H : Hp} {Q : VK} (h : te σ H fun x H1 => r x H1 Q) : tRv r te σ H Q := h
theorem cut9 (z : Str) : (cutS z none (some 9)).length ≤ 9 := by
  show ((z.cps.toList.drop (HT.sIx z.length 0 none)).take (HT.sIx z.length z.length (some 9) - HT.sIx z.length 0 none)).toArray.size ≤ 9
  rw [List.size_toArray, List.length_take]
  have : HT.sIx z.length z.length (some 9) ≤ 9 := by
    unfold HT.sIx
    simp
    omega
  omega
/-- t + u, whatever they are -/
theorem catA_of {K : PySem.W.Frag} {H : Hp} {Q : VK} {a b : Addr} {xs ys zs : List V} (ha : H a = some (.tup xs)) (hb : H b = some (.tup ys)) (e : xs ++ ys = zs) (l : xs.length + ys.length ≤ 100000) (h : ∀ p H2, Same H H2 → H2 p = some (.tup zs) → Q (.ref p) H2) : rCatA K (.ref a) (.ref b) H Q := by
  subst e
  refine ⟨a, b, xs, ys, rfl, rfl, SqT.of ha, SqT.of hb, Nat.le_trans l (by decide), fun e => ?_, fun _ e => ?_, fun _ _ p hp => h p _ (Same.upd hp) upd_same⟩
  · subst e
    exact h b H (Same.refl H) hb
  · subst e
    exact h a H (Same.refl H) (by rw [List.append_nil]; exact ha)
end Own

set_option Elab.async false
set_option maxRecDepth 100000
set_option maxHeartbeats 4000000
set_option linter.unusedVariables false
namespace K01.L
open PySem PySem.Spec PyProof.Rows L2 Own StX
-- steps
local macro_rules | `(tactic| walk_at "lk") => `(tactic| first
  | assumption | exact upd_same
  | ((with_reducible refine' lk_new ?e (by assumption)); (case e => walk_at "lk"))
  | ((with_reducible refine' lk_ext (by assumption) ?e); (case e => walk_at "lk"))
  | ((with_reducible refine' lk_same (by assumption) ?e); (case e => walk_at "lk")))
local macro_rules | `(tactic| walk_at "sq") => `(tactic| first | assumption | exact SqL.of (by walk_at "lk") | exact SqT.of (by walk_at "lk"))
local macro_rules | `(tactic| walk_at "r1") => `(tactic| first
  | with_reducible refine k_seq ?_ | with_reducible refine k_asg ?_ | with_reducible refine k_ret ?_ | with_reducible refine k_drop ?_ | with_reducible refine k_next ?_ | with_reducible refine k_ifS ?_
  | ((with_reducible refine' k_var ?e ?_); (case e => exact rfl)) | with_reducible refine k_c ?_ | with_reducible refine k_op ?_ | with_reducible refine k_un ?_ | with_reducible refine k_test ?_ | with_reducible refine k_B ?_
  | with_reducible refine k_and ?_ | with_reducible refine k_or ?_ | with_reducible refine k_not ?_ | with_reducible refine k_andV ?_ | with_reducible refine k_orV ?_ | with_reducible refine k_notV ?_ | with_reducible refine k_if ?_
  | with_reducible refine k_nil ?_ | with_reducible refine k_cons ?_ | with_reducible refine k_tup ?_ | with_reducible refine k_lst ?_ | with_reducible refine k_call ?_ | with_reducible refine k_cb ?_ | with_reducible refine k_ck ?_
  | with_reducible refine k_par ?_ | with_reducible refine k_par1 ?_ | with_reducible refine k_tr ?_ | with_reducible refine k_rI0 ?_ | with_reducible refine k_rU ?_
  | with_reducible refine k_gN ?_ | with_reducible refine k_gS ?_ | with_reducible refine k_gNil ?_ | with_reducible refine k_gCons ?_ | with_reducible refine k_bm0 ?_ | with_reducible refine k_bm ?_
  | with_reducible refine k_for ?_ | with_reducible refine k_iL ?_ | with_reducible refine k_iT ?_ | with_reducible refine k_iR1 ?_ | ((with_reducible refine k_iR1i ?e ?_); (case e => first | decide | exact ⟨by omega, by omega⟩))
  | with_reducible refine k_max ?_ | with_reducible refine k_isB ?_ | with_reducible refine k_sl ?_ | with_reducible refine k_noP ?_ | with_reducible refine k_part ?_ | with_reducible refine k_partI ?_ | with_reducible refine k_revL ?_
  | ((with_reducible refine' k_ixqT ?e ?f ?_); (case e => walk_at "sq"); (case f => first | exact rfl | exact atI_head))
  | ((with_reducible refine' k_ixqL ?e ?f ?_); (case e => walk_at "sq"); (case f => first | exact rfl | exact atI_head))
  | ((with_reducible refine' k_lenL ?e ?_); (case e => walk_at "sq"))
  | ((with_reducible refine' k_lenT ?e ?_); (case e => walk_at "sq"))
  | ((with_reducible refine' k_ixL ?e ?f ?_); (case e => walk_at "sq"); (case f => first | exact rfl | exact atI_head))
  | ((with_reducible refine' k_ixT ?e ?f ?_); (case e => walk_at "sq"); (case f => first | exact rfl | exact atI_head))
  | ((with_reducible refine k_eq ?e ?_); (case e => exact rfl)) | ((with_reducible refine k_ne ?e ?_); (case e => exact rfl))
  | ((with_reducible refine k_rI ?e ?_); (case e => first | assumption | omega | decide | exact ⟨by omega, by omega⟩ | exact .inl ⟨by omega, by omega⟩ | exact .inr ⟨by omega, by omega⟩)))
local macro_rules | `(tactic| walk_at "rd") => `(tactic| repeat walk_at "r1")
local macro_rules | `(tactic| walk_at "r2") => `(tactic| first
  | walk_at "r1"
  | with_reducible refine k_ifTt ?_ | with_reducible refine k_ifFf ?_ | with_reducible refine k_ifNt ?_ | with_reducible refine k_ifNf ?_
  | with_reducible refine k_makeR ?_ | with_reducible refine k_tJ ?_ | with_reducible refine k_tJc ?_ | with_reducible refine k_tJn ?_ | with_reducible refine k_fmt ?_ | with_reducible refine k_lc ?_ | with_reducible refine k_din ?_ | with_reducible refine k_fld ?_ | with_reducible refine k_dget ?_
  | with_reducible refine k_dput ?_
  | with_reducible refine k_isNv ?_
  | with_reducible refine k_notNv ?_
  | with_reducible refine k_str ?_
  | with_reducible refine k_enumT ?_
  | with_reducible refine k_zipA ?_
  | with_reducible refine k_chain ?_
  | ((with_reducible refine' k_dgS ?e dkv_cells ?_); (case e => walk_at "lk"))
  | ((with_reducible refine' k_dgS ?e dkv_mixed ?_); (case e => walk_at "lk"))
  | ((with_reducible refine' k_dgS ?e dkv_turn ?_); (case e => walk_at "lk")))
local macro_rules | `(tactic| walk_at "rr") => `(tactic| repeat walk_at "r2")
-- steps end
section
variable {P : Program} {w : World} {K : PySem.W.Frag} {mg : Str → Option Value} {g0 : Heap} {C N : Addr}
abbrev s_other : Stmt := top 30
theorem sc_other : FnScope ["_law_deck_here", "_law_it", "_law_odd", "_law_at", "_law_some"] ["_law_deck_here", "_law_it"] (defScope s_other) :=
  ⟨rfl, rfl, rfl, by decide +kernel, rfl, by decide +kernel, by decide +kernel⟩
abbrev s_bent : Stmt := top 31
theorem sc_bent : FnScope ["_law_deck_here", "_law_it", "_law_at"] ["_law_deck_here", "_law_it"] (defScope s_bent) :=
  ⟨rfl, rfl, rfl, by decide +kernel, rfl, by decide +kernel, by decide +kernel⟩
theorem k_disp1 {k1 v1 : TE} {σ : L2.St} {H : Hp} {Q : VK} (h : ∀ p, H p = none → k1 σ (upd H p (.dK [])) fun x1 H1 => v1 σ H1 fun y1 H2 => H2 p = some (.dK []) ∧ ∃ kvs : List (Key × V), [(x1, y1)] = kvs.map (fun kv => (kV kv.1, kv.2)) ∧ kvs.length ≤ 15 ∧ Q (.ref p) (upd H2 p (.dK (mergeK [] kvs)))) : tDisp [(k1, v1)] σ H Q := h
theorem one_merge : mergeK [] [(keyA, V.int 1)] = [(keyA, V.int 1)] := by
  unfold mergeK
  simp only [List.foldl_cons, List.foldl_nil]
  exact putK_new _ kv_nil
theorem pick_all {x : V} {xs : List V} {R : V → Prop} (h : ∀ y ∈ xs, R y) (hx : x ∈ xs) : R x := h x hx
def is3 : PyData → Bool
  | .tuple _ => true
  | .str _ => true
  | .int _ => true
  | .bool _ => true
  | _ => false
def isB : PyData → Bool
  | .bool _ => true
  | _ => false
def isI : PyData → Bool
  | .int _ => true
  | .bool _ => true
  | _ => false
theorem kit_b : kitB "NoneType" "bool" = some false ∧ kitB "bool" "bool" = some true ∧ kitB "int" "bool" = some false ∧ kitB "str" "bool" = some false ∧ kitB "list" "bool" = some false ∧ kitB "tuple" "bool" = some false ∧ kitB "dict" "bool" = some false := by decide +kernel
theorem kit_i : kitB "NoneType" "int" = some false ∧ kitB "bool" "int" = some true ∧ kitB "int" "int" = some true ∧ kitB "str" "int" = some false ∧ kitB "list" "int" = some false ∧ kitB "tuple" "int" = some false ∧ kitB "dict" "int" = some false := by decide +kernel
theorem isi_bool {K : PySem.W.Frag} {H : Hp} {v : V} {d : PyData} {Q : VK} (h : Dq H v d) (q : Q (.bl (isB d)) H) : rIsi K [v, .ty "bool"] H Q := by
  obtain ⟨k1, k2, k3, k4, k5, k6, k7⟩ := kit_b
  refine isi_t h.ty (b := isB d) ?_ q
  cases d
  · exact k1
  · exact k2
  · exact k3
  · exact k4
  · exact k5
  · exact k6
  · exact k7
theorem isi_int {K : PySem.W.Frag} {H : Hp} {v : V} {d : PyData} {Q : VK} (h : Dq H v d) (q : Q (.bl (isI d)) H) : rIsi K [v, .ty "int"] H Q := by
  obtain ⟨k1, k2, k3, k4, k5, k6, k7⟩ := kit_i
  refine isi_t h.ty (b := isI d) ?_ q
  cases d
  · exact k1
  · exact k2
  · exact k3
  · exact k4
  · exact k5
  · exact k6
  · exact k7
theorem any3 {K : PySem.W.Frag} {A : String} {b1 b2 b3 : Bool} (h1 : kitB A "tuple" = some b1) (h2 : kitB A "str" = some b2) (h3 : kitB A "int" = some b3) : PySem.W.kitAny K (.type A) [.type "tuple", .type "str", .type "int"] = some (b1 || b2 || b3) := by
  simp only [PySem.W.kitAny, kit_ty h1, kit_ty h2, kit_ty h3]
  cases b1 <;> cases b2 <;> cases b3 <;> rfl
theorem isi_3 {K : PySem.W.Frag} {H : Hp} {v : V} {d : PyData} {Q : VK} {p : Addr} (h : Dq H v d) (hp : H p = some (.tup [.ty "tuple", .ty "str", .ty "int"])) (q : Q (.bl (is3 d)) H) : rIsiT K [v, .ref p] H Q := by
  obtain ⟨t1, t2, t3, t4, t5, t6, t7⟩ := kit_t
  obtain ⟨s1, s2, s3, s4, s5, s6, s7⟩ := kit_s
  obtain ⟨i1, i2, i3, i4, i5, i6, i7⟩ := kit_i
  refine ⟨v, p, _, _, _, is3 d, rfl, hp, .cons (.ty _) (.cons (.ty _) (.cons (.ty _) .nil)), h.ty, ?_, q⟩
  cases d
  · exact any3 t1 s1 i1
  · exact any3 t2 s2 i2
  · exact any3 t3 s3 i3
  · exact any3 t4 s4 i4
  · exact any3 t5 s5 i5
  · exact any3 t6 s6 i6
  · exact any3 t7 s7 i7
def spOther : Sp := fun vs H Q _ => ∃ (d c : Addr) (b : Int) (v : V) (n W D : Nat), vs = [.ref d, v] ∧ Deck d c b H ∧ b ≤ 900000000 ∧ Va (Dk d c) n W D H v ∧ n ≤ 900 ∧ W ≤ 1000 ∧ D ≤ 40 ∧
  ∀ v' H', Va (Dk d c) (n + 1) (2 * W + 200) (D + 2) H' v' → Deck d c (b + 3) H' → Ext (Dk d c) H H' → Q v' H'
theorem ok_other {f : Addr} {fd : FuncData} (F : Fun K "_law_other" "_law_other" s_other f fd) (C_draw : Cal P w K mg g0 "_law_draw" 1 ["_law_deck_here", "_law_many"] spDraw) (C_pick : Cal P w K mg g0 "_law_pick" 2 ["_law_deck_here", "_law_some"] spPick)
    (z_isinstance : mg "isinstance" = none) (z_tuple : mg "tuple" = none) (z_str : mg "str" = none) (z_int : mg "int" = none) (z_bool : mg "bool" = none) (z_len : mg "len" = none) (z_list : mg "list" = none) :
    GOk P w K mg g0 CX0 3 f fd ["_law_deck_here", "_law_it"] spOther := by
  have nd := sc_other.nd
  refine okG F sc_other (fun vs H Q E h => ?_) (fun cdv A up s H vs Q E qt hr h => ?_)
  · obtain ⟨d, c, b, v, n, W, D, rfl, _⟩ := h
    rfl
  · obtain ⟨d, c, b, v, n, W, D, rfl, dk, hb, ⟨x, dx, fx⟩, hn, hW, hD, k⟩ := h
    refine ⟨_, (pss_cons (ps_set (i := 2) nd rfl (Or.inl rfl) (pe_lst (pa_cons pe_non (pa_cons pe_bl (pa_cons pe_bl (pa_cons pe_int (pa_cons pe_int (pa_cons (pe_un un_neg pe_int) (pa_cons (pe_op op_pow pe_int pe_int) (pa_cons pe_str (pa_cons pe_str (pa_cons pe_str (pa_cons pe_str (pa_cons (pe_tup pa_nil) (pa_cons (pe_lst pa_nil) (pa_cons pe_dnewK (pa_cons (pe_tup (pa_cons pe_str pa_nil)) (pa_cons (pe_lst (pa_cons (pe_tup pa_nil) pa_nil)) (pa_cons (pe_disp (pps_cons pe_str pe_int pps_nil) rfl rfl (by decide) (by decide)) (pa_cons pe_str pa_nil))))))))))))))))))))
        (pss_cons (ps_if (PW.pt (pw_or (pt_cmpR (op_eqT0 hr.units) (pv 1) (pe_tup pa_nil) (nomark _)) (pw_or (pt_not (pt_val (pe_callB call_isiT (by rfl) z_isinstance (by decide +kernel) (pa_cons (pv 1) (pa_cons (pe_tup (pa_cons (pe_bltn (v := .ty "tuple") (by rfl) z_tuple PyProof.Rows.boot_tuple rfl) (pa_cons (pe_bltn (v := .ty "str") (by rfl) z_str PyProof.Rows.boot_str rfl) (pa_cons (pe_bltn (v := .ty "int") (by rfl) z_int PyProof.Rows.boot_int rfl) pa_nil)))) pa_nil))))) (pw_or (pt_val (pe_callB call_isi (by rfl) z_isinstance (by decide +kernel) (pa_cons (pv 1) (pa_cons (pe_bltn (v := .ty "bool") (by rfl) z_bool PyProof.Rows.boot_bool rfl) pa_nil)))) (pw_or1 (pt_cmpR op_eq (pe_c C_draw qt (hr.mono (by decide)) (pa_cons (pv 0) (pa_cons pe_int pa_nil))) pe_int (nomark _))))))) (pss_one (ps_ret (pe_c C_pick qt (hr.mono (by decide)) (pa_cons (pv 0) (pa_cons (pv 2) pa_nil))))) pss_nil)
        (pss_cons (ps_if (pt_val (pe_callB call_isi (by rfl) z_isinstance (by decide +kernel) (pa_cons (pv 1) (pa_cons (pe_bltn (v := .ty "int") (by rfl) z_int PyProof.Rows.boot_int rfl) pa_nil)))) (pss_one (ps_ret (pe_c C_pick qt (hr.mono (by decide)) (pa_cons (pv 0) (pa_cons (pe_lst (pa_cons (pe_op op_add (pv 1) pe_int) (pa_cons (pe_op op_sub (pv 1) pe_int) (pa_cons (pe_op op_sub (pe_un un_neg pe_int) (pv 1)) (pa_cons (pe_cmpR op_eq (pv 1) pe_int (nomark _)) (pa_cons (pe_callTy call_str_int (by rfl) z_str (by decide +kernel) (pa_cons (pv 1) pa_nil)) (pa_cons (pe_tup (pa_cons (pv 1) pa_nil)) (pa_cons (pe_op op_add (pv 1) (pe_op op_pow pe_int pe_int)) (pa_cons (pe_lst (pa_cons (pv 1) pa_nil)) (pa_cons pe_non pa_nil)))))))))) pa_nil))))) pss_nil)
        (pss_cons (ps_if (pt_val (pe_callB call_isi (by rfl) z_isinstance (by decide +kernel) (pa_cons (pv 1) (pa_cons (pe_bltn (v := .ty "str") (by rfl) z_str PyProof.Rows.boot_str rfl) pa_nil)))) (pss_one (ps_ret (pe_c C_pick qt (hr.mono (by decide)) (pa_cons (pv 0) (pa_cons (pe_lst (pa_cons (pe_op op_add_str (pv 1) pe_str) (pa_cons (pe_slice sl_str (pv 1) po_none (po_some (pe_un un_neg pe_int))) (pa_cons (pe_bm0 PySem.F.plainAttrs_str PySem.F.slot_str_upper PySem.F.type_str_upper mt_upper (pv 1)) (pa_cons (pe_op op_add_str (pv 1) pe_str) (pa_cons (pe_slice sl_str (pe_op op_repS (pv 1) pe_int) po_none (po_some pe_int)) (pa_cons (pe_tup (pa_cons (pv 1) pa_nil)) (pa_cons (pe_lst (pa_cons (pv 1) pa_nil)) (pa_cons (pe_rev (rv_any (K := K) rfl) (pv 1)) (pa_cons pe_str pa_nil)))))))))) pa_nil))))) pss_nil)
        (pss_cons (ps_set (i := 3) nd rfl (Or.inl rfl) (pe_c C_draw qt (hr.mono (by decide)) (pa_cons (pv 0) (pa_cons (pe_callB (c_lenK (K := K) rfl) (by rfl) z_len (by decide +kernel) (pa_cons (pv 1) pa_nil)) pa_nil))))
        (pss_cons (ps_set (i := 4) nd rfl (Or.inl rfl) (pe_lst (pa_cons (pe_op op_catA (pe_slice sl_tupA (pv 1) po_none (po_some (pv 3))) (pe_slice sl_tupA (pv 1) (po_some (pe_op op_add (pv 3) pe_int)) po_none)) (pa_cons (pe_op op_catA (pe_slice sl_tupA (pv 1) po_none (po_some (pe_op op_add (pv 3) pe_int))) (pe_slice sl_tupA (pv 1) (po_some (pv 3)) po_none)) (pa_cons (pe_rev (rv_any (K := K) rfl) (pv 1)) (pa_cons (pe_callTy c_list (by rfl) z_list (by decide +kernel) (pa_cons (pv 1) pa_nil)) (pa_cons (pe_op op_catA (pv 1) (pe_tup (pa_cons pe_str pa_nil))) (pa_cons (pe_tup (pa_cons (pv 1) pa_nil)) (pa_cons (pe_slice sl_tupA (pv 1) (po_some pe_int) po_none) (pa_cons (pe_op op_catA (pv 1) (pe_slice sl_tupA (pv 1) po_none (po_some pe_int))) pa_nil))))))))))
        (pss_one (ps_ret (pe_c C_pick qt (hr.mono (by decide)) (pa_cons (pv 0) (pa_cons (pv 4) pa_nil))))))))))), ?_⟩
    walk_at "rr"
    have dk0 : Deck d c b H := dk
    refine ⟨k_sz rfl, fun b1 hb1 => ?_⟩
    have m1 := dk0.off hb1
    generalize e1 : upd H b1 (.tup []) = H1
    obtain ⟨t1, f1⟩ := upd_tells e1 hb1
    have dk1 := dk0.same t1
    clear e1 hb1
    walk_at "rr"
    refine ⟨k_sz rfl, fun b2 hb2 => ?_⟩
    have m2 := dk1.off hb2
    generalize e2 : upd H1 b2 (.lst []) = H2
    obtain ⟨t2, f2⟩ := upd_tells e2 hb2
    have dk2 := dk1.same t2
    clear e2 hb2
    walk_at "rr"
    refine k_dnewK fun b3 hb3 => ?_
    have m3 := dk2.off hb3
    generalize e3 : upd H2 b3 (.dK []) = H3
    obtain ⟨t3, f3⟩ := upd_tells e3 hb3
    have dk3 := dk2.same t3
    clear e3 hb3
    walk_at "rr"
    refine ⟨k_sz rfl, fun b4 hb4 => ?_⟩
    have m4 := dk3.off hb4
    generalize e4 : upd H3 b4 (.tup [V.str (Str.ofString "a")]) = H4
    obtain ⟨t4, f4⟩ := upd_tells e4 hb4
    have dk4 := dk3.same t4
    clear e4 hb4
    walk_at "rr"
    refine ⟨k_sz rfl, fun b5 hb5 => ?_⟩
    have m5 := dk4.off hb5
    generalize e5 : upd H4 b5 (.tup []) = H5
    obtain ⟨t5, f5⟩ := upd_tells e5 hb5
    have dk5 := dk4.same t5
    clear e5 hb5
    walk_at "rr"
    refine ⟨k_sz rfl, fun b6 hb6 => ?_⟩
    have m6 := dk5.off hb6
    generalize e6 : upd H5 b6 (.lst [V.ref b5]) = H6
    obtain ⟨t6, f6⟩ := upd_tells e6 hb6
    have dk6 := dk5.same t6
    clear e6 hb6
    walk_at "rr"
    refine k_disp1 fun b7 hb7 => ?_
    walk_at "rr"
    refine ⟨upd_same, [(keyA, V.int 1)], rfl, by decide, ?_⟩
    rw [one_merge, upd_upd]
    have m7 := dk6.off hb7
    generalize e7 : upd H6 b7 (.dK [(keyA, V.int 1)]) = H7
    obtain ⟨t7, f7⟩ := upd_tells e7 hb7
    have dk7 := dk6.same t7
    clear e7 hb7
    walk_at "rr"
    have tot : Same H H7 := (((((t1.trans t2).trans t3).trans t4).trans t5).trans t6).trans t7
    have g1 := t7 _ _ (t6 _ _ (t5 _ _ (t4 _ _ (t3 _ _ (t2 _ _ f1)))))
    have g2 := t7 _ _ (t6 _ _ (t5 _ _ (t4 _ _ (t3 _ _ f2))))
    have g3 := t7 _ _ (t6 _ _ (t5 _ _ (t4 _ _ f3)))
    have g4 := t7 _ _ (t6 _ _ (t5 _ _ f4))
    have g5 := t7 _ _ (t6 _ _ f5)
    have g6 := t7 _ _ f6
    have w4 : PyData.weight (.dict [(PyData.str (Str.ofString "a"), PyData.int 1)]) = 4 := by decide +kernel
    have aa : Asc (Str.ofString "a") := by decide +kernel
    have od : ∀ y ∈ [V.non, V.bl true, V.bl false, V.int 0, V.int 1, V.int (-1), V.int (10 ^ Int.toNat 39), V.str (Str.ofString ""), V.str (Str.ofString "a"), V.str (Str.ofString "A"), V.str (Str.ofString "a1"), V.ref b1, V.ref b2, V.ref b3, V.ref b4, V.ref b6, V.ref b7, V.str (Str.ofString "abcdefghi")], Va (Dk d c) (n + 1) (2 * W + 200) (D + 2) H7 y := by
      intro y hy
      have fz : ∀ i : Int, i.natAbs ≤ 10 ^ 40 → Va (Dk d c) (n + 1) (2 * W + 200) (D + 2) H7 (.int i) := fun i hi => va_int (Nat.le_trans hi (Nat.le_add_right _ _)) (by omega) (by omega)
      have st : ∀ z : Str, Asc z → z.length ≤ 200 → Va (Dk d c) (n + 1) (2 * W + 200) (D + 2) H7 (.str z) := fun z h l => va_str h (by omega)
      simp only [List.mem_cons, List.not_mem_nil, or_false] at hy
      rcases hy with rfl | rfl | rfl | rfl | rfl | rfl | rfl | rfl | rfl | rfl | rfl | rfl | rfl | rfl | rfl | rfl | rfl | rfl
      · exact va_non
      · exact va_bl
      · exact va_bl
      · exact fz _ (by decide +kernel)
      · exact fz _ (by decide +kernel)
      · exact fz _ (by decide +kernel)
      · exact fz _ (by decide +kernel)
      · exact st _ (by decide +kernel) (by decide +kernel)
      · exact st _ (by decide +kernel) (by decide +kernel)
      · exact st _ (by decide +kernel) (by decide +kernel)
      · exact st _ (by decide +kernel) (by decide +kernel)
      · exact (Vs.tup (D := 0) Vs.nil g1).mono (Nat.le_refl _) (by omega) (by omega)
      · exact (Vs.lst (D := 0) Vs.nil g2 m2).mono (Nat.le_refl _) (by omega) (by omega)
      · exact ⟨_, .d0 g3 m3, by simp only [fine]; decide +kernel, by show 0 ≤ _; omega, by show 1 ≤ _; omega⟩
      · exact (Vs.tup (D := 0) (Vs.cons (va_str (W := 1) aa (by decide +kernel)) Vs.nil) g4).mono (Nat.le_refl _) (by omega) (by omega)
      · exact (Vs.lst (D := 1) (Vs.cons (W := 0) (Vs.tup (D := 0) Vs.nil g5) Vs.nil) g6 m6).mono (Nat.le_refl _) (by omega) (by omega)
      · exact ⟨_, .d1 f7 m7, by simp only [fine]; decide +kernel, Nat.le_trans (Nat.le_of_eq w4) (by omega), by show 1 ≤ _; omega⟩
      · exact st _ (by decide +kernel) (by decide +kernel)
    generalize hodl : [V.non, V.bl true, V.bl false, V.int 0, V.int 1, V.int (-1), V.int (10 ^ Int.toNat 39), V.str (Str.ofString ""), V.str (Str.ofString "a"), V.str (Str.ofString "A"), V.str (Str.ofString "a1"), V.ref b1, V.ref b2, V.ref b3, V.ref b4, V.ref b6, V.ref b7, V.str (Str.ofString "abcdefghi")] = odl at od ⊢
    have lodl : odl.length = 18 := by rw [← hodl]; rfl
    clear hodl t1 t2 t3 t4 t5 t6 t7 f1 f2 f3 f4 f5 f6 f7 g1 g2 g3 g4 g5 g6 m1 m2 m3 m4 m5 m6 m7 dk1 dk2 dk3 dk4 dk5 dk6
    refine ⟨by rw [lodl]; exact k_sz rfl, fun b8 hb8 => ?_⟩
    have m8 := dk7.off hb8
    generalize e8 : upd H7 b8 (.lst odl) = H8
    obtain ⟨t8, f8⟩ := upd_tells e8 hb8
    have dk8 := dk7.same t8
    clear e8 hb8
    walk_at "rr"
    have od8 : ∀ y ∈ odl, Va (Dk d c) (n + 1) (2 * W + 200) (D + 2) H8 y := fun y hy => (od y hy).same t8
    have s08 : Same H H8 := tot.trans t8
    have fin : ∀ H' (b' : Int), b' ≤ b + 2 → Ext (Dk d c) H8 H' → Deck d c b' H' → spPick [.ref d, .ref b8] H' Q E0 := fun H' b' hb' x' dk' => by
      refine ⟨d, c, b8, b', odl, rfl, dk', by omega, m8, x'.2 _ _ m8 f8, by omega, by omega, fun y H2 hy dk2 x2 => k y H2 ?_ (dk2.mono (by omega)) ((Own.Same.ext s08).trans (x'.trans x2))⟩
      exact ((od8 y hy).ext x').ext x2
    refine ⟨k_sz rfl, fun b9 hb9 => ?_⟩
    have m9 := dk8.off hb9
    generalize e9 : upd H8 b9 (.tup []) = H9
    obtain ⟨t9, f9⟩ := upd_tells e9 hb9
    have dk9 := dk8.same t9
    clear e9 hb9
    walk_at "rr"
    have dx9 : Dn (Dk d c) H9 v x := (dx.ext (Own.Same.ext s08)).ext (Own.Same.ext t9)
    refine ⟨x, b9, dx9.dq, rfl, SqT.of f9, ?_⟩
    by_cases z0 : tup0 x = true
    · rw [z0]
      refine ⟨true, rfl, k_ifTt ?_⟩
      walk_at "rr"
      exact fin H9 b (by omega) (Own.Same.ext t9) dk9
    · rw [Bool.not_eq_true] at z0
      rw [z0]
      refine ⟨false, rfl, k_ifFf ?_⟩
      walk_at "rr"
      refine ⟨k_sz rfl, fun b10 hb10 => ?_⟩
      have m10 := dk9.off hb10
      generalize e10 : upd H9 b10 (.tup [.ty "tuple", .ty "str", .ty "int"]) = H10
      obtain ⟨t10, f10⟩ := upd_tells e10 hb10
      have dk10 := dk9.same t10
      clear e10 hb10
      walk_at "rr"
      have dx10 : Dn (Dk d c) H10 v x := dx9.ext (Own.Same.ext t10)
      have s810 : Same H8 H10 := t9.trans t10
      refine isi_3 dx10.dq f10 ?_
      by_cases z1 : is3 x = true
      · refine ⟨true, by rw [z1], ?_⟩
        walk_at "rr"
        refine isi_bool dx10.dq ?_
        by_cases z2 : isB x = true
        · refine ⟨true, by rw [z2], ?_⟩
          walk_at "rr"
          exact fin H10 b (by omega) (Own.Same.ext s810) dk10
        · rw [Bool.not_eq_true] at z2
          refine ⟨false, by rw [z2], ?_⟩
          walk_at "rr"
          refine ⟨d, c, b, 4, rfl, dk10, by omega, by decide, by decide, fun r H11 r0 r1 dk11 x11 => ?_⟩
          walk_at "rr"
          have dx11 : Dn (Dk d c) H11 v x := dx10.ext x11
          have x811 : Ext (Dk d c) H8 H11 := (Own.Same.ext s810).trans x11
          refine k_iteD (fun z3 => ?_) fun z3 => ?_
          · walk_at "rr"
            exact fin H11 _ (by omega) x811 dk11
          · walk_at "rr"
            refine isi_int dx11.dq ?_
            have toQ : ∀ (W' D' : Nat) v' H', W' ≤ 2 * W + 200 → D' ≤ D + 2 → Va (Dk d c) (n + 1) W' D' H' v' → Deck d c (b + 3) H' → Ext (Dk d c) H11 H' → Q v' H' := fun W' D' v' H' h1 h2 h3 h4 h5 => k v' H' (h3.mono (Nat.le_refl _) h1 h2) h4 ((Own.Same.ext s08).trans (x811.trans h5))
            clear fin od8 f8 m8 od lodl
            cases dx11 with
            | int i =>
              refine ⟨true, rfl, ?_⟩
              walk_at "rr"
              have fi : i.natAbs ≤ far n := of_decide_eq_true fx.fi
              refine ⟨i, rfl, Nat.lt_trans (int_show (by omega) fi) (by decide), ?_⟩
              walk_at "rr"
              refine ⟨k_sz rfl, fun b12 hb12 => ?_⟩
              have m12 := dk11.off hb12
              generalize e12 : upd H11 b12 (.tup [V.int i]) = H12
              obtain ⟨t12, f12⟩ := upd_tells e12 hb12
              have dk12 := dk11.same t12
              clear e12 hb12
              walk_at "rr"
              refine ⟨k_sz rfl, fun b13 hb13 => ?_⟩
              have m13 := dk12.off hb13
              generalize e13 : upd H12 b13 (.lst [V.int i]) = H13
              obtain ⟨t13, f13⟩ := upd_tells e13 hb13
              have dk13 := dk12.same t13
              clear e13 hb13
              walk_at "rr"
              refine ⟨k_sz rfl, fun b14 hb14 => ?_⟩
              have m14 := dk13.off hb14
              generalize e14 : upd H13 b14 _ = H14
              obtain ⟨t14, f14⟩ := upd_tells e14 hb14
              have dk14 := dk13.same t14
              clear e14 hb14
              walk_at "rr"
              have t1114 : Same H11 H14 := (t12.trans t13).trans t14
              refine ⟨d, c, b14, _, _, rfl, dk14, by omega, m14, f14, Nat.succ_pos _, (by show 9 ≤ 1000; decide), fun y H2 hy dk2 x2 => toQ (2 * W + 200) (D + 2) y H2 (Nat.le_refl _) (Nat.le_refl _) (Va.ext ?_ x2) (dk2.mono (by omega)) ((Own.Same.ext t1114).trans x2)⟩
              have fz : ∀ j : Int, j.natAbs ≤ i.natAbs + (10 ^ 30 + 1) → Va (Dk d c) (n + 1) (2 * W + 200) (D + 2) H14 (.int j) := fun j hj => va_int (Nat.le_trans hj (by
                have e : far (n + 1) = far n + 10 ^ 31 := by
                  unfold far
                  rw [Nat.add_mul]
                  omega
                have : 10 ^ 30 + 1 ≤ 10 ^ 31 := by decide +kernel
                omega)) (by omega) (by omega)
              have p30 : ((10 : Int) ^ Int.toNat 30).natAbs = 10 ^ 30 := by decide +kernel
              have fI : Va (Dk d c) n W D H11 (.int i) := ⟨.int i, .int i, fx⟩
              simp only [List.mem_cons, List.not_mem_nil, or_false] at hy
              rcases hy with rfl | rfl | rfl | rfl | rfl | rfl | rfl | rfl | rfl
              · exact fz _ (by omega)
              · exact fz _ (by omega)
              · exact fz _ (by omega)
              · exact va_bl
              · exact va_str (asc_int i) (by have := int_short (by omega) fi; rw [PySem.ofString_length]; omega)
              · exact (Vs.tup (Vs.cons (fI.same t1114) Vs.nil) (t14 _ _ (t13 _ _ f12))).mono (by omega) (by omega) (by omega)
              · refine fz _ ?_
                have := Int.natAbs_add_le i (10 ^ Int.toNat 30)
                omega
              · exact (Vs.lst (Vs.cons (fI.same t1114) Vs.nil) (t14 _ _ f13) m13).mono (by omega) (by omega) (by omega)
              · exact va_non
            | str z =>
              refine ⟨false, rfl, ?_⟩
              walk_at "rr"
              have as : Asc z := of_decide_eq_true fx.fi
              have lz : z.length ≤ W := fx.we
              refine isi_str (d := .str z) (.str z) ?_
              refine ⟨true, rfl, ?_⟩
              walk_at "rr"
              have big : ∀ {k : Nat}, k ≤ 1000000 → k ≤ sizeLine := fun h => by rw [sizeLine_eq]; omega
              have l1 : (Str.ofString "a").length = 1 := by decide +kernel
              have l2 : (Str.ofString " ").length = 1 := by decide +kernel
              refine ⟨z, _, rfl, rfl, big (by rw [l1]; omega), ?_⟩
              walk_at "rr"
              refine ⟨z, rfl, big (by omega), ?_⟩
              walk_at "rr"
              refine ⟨rfl, z, rfl, rfl, by omega, ?_⟩
              walk_at "rr"
              refine ⟨z, _, rfl, rfl, big (by rw [l2]; omega), ?_⟩
              walk_at "rr"
              refine ⟨z, 9, rfl, rfl, by omega, by decide, by decide, ?_⟩
              walk_at "rr"
              refine ⟨_, rfl, big ?_, ?_⟩
              · have := len_mul_leN (x := z) (n := 9) (L := W) (N := 9) lz (by decide)
                omega
              walk_at "rr"
              refine ⟨k_sz rfl, fun b12 hb12 => ?_⟩
              have m12 := dk11.off hb12
              generalize e12 : upd H11 b12 (.tup [V.str z]) = H12
              obtain ⟨t12, f12⟩ := upd_tells e12 hb12
              have dk12 := dk11.same t12
              clear e12 hb12
              walk_at "rr"
              refine ⟨k_sz rfl, fun b13 hb13 => ?_⟩
              have m13 := dk12.off hb13
              generalize e13 : upd H12 b13 (.lst [V.str z]) = H13
              obtain ⟨t13, f13⟩ := upd_tells e13 hb13
              have dk13 := dk12.same t13
              clear e13 hb13
              walk_at "rr"
              refine k_rv ?_
              walk_at "rr"
              refine Or.inl ⟨z, rfl, big (by omega), ?_⟩
              walk_at "rr"
              refine ⟨k_sz rfl, fun b14 hb14 => ?_⟩
              have m14 := dk13.off hb14
              generalize e14 : upd H13 b14 _ = H14
              obtain ⟨t14, f14⟩ := upd_tells e14 hb14
              have dk14 := dk13.same t14
              clear e14 hb14
              walk_at "rr"
              have t1114 : Same H11 H14 := (t12.trans t13).trans t14
              refine ⟨d, c, b14, _, _, rfl, dk14, by omega, m14, f14, Nat.succ_pos _, (by show 9 ≤ 1000; decide), fun y H2 hy dk2 x2 => toQ (2 * W + 200) (D + 2) y H2 (Nat.le_refl _) (Nat.le_refl _) (Va.ext ?_ x2) (dk2.mono (by omega)) ((Own.Same.ext t1114).trans x2)⟩
              have st : ∀ y : Str, Asc y → y.length ≤ 2 * W + 200 → Va (Dk d c) (n + 1) (2 * W + 200) (D + 2) H14 (.str y) := fun z h l => va_str h l
              have al : ∀ a b : Str, (a ++ b).length = a.length + b.length := fun a b => by
                show (a.cps ++ b.cps).size = _
                rw [Array.size_append]
                rfl
              have fI : Va (Dk d c) n W D H11 (.str z) := ⟨.str z, .str z, fx⟩
              simp only [List.mem_cons, List.not_mem_nil, or_false] at hy
              rcases hy with rfl | rfl | rfl | rfl | rfl | rfl | rfl | rfl | rfl
              · exact st _ (asc_app as (by decide +kernel)) (by rw [al, l1]; omega)
              · exact st _ (asc_cut as _ _) (Nat.le_trans (cutS_length z _ _) (by omega))
              · exact st _ (asc_upper as).1 (by rw [(asc_upper as).2]; omega)
              · exact st _ (asc_app as (by decide +kernel)) (by rw [al, l2]; omega)
              · exact st _ (asc_cut (asc_mul as _) _ _) (Nat.le_trans (cut9 _) (by omega))
              · exact (Vs.tup (Vs.cons (fI.same t1114) Vs.nil) (t14 _ _ (t13 _ _ f12))).mono (by omega) (by omega) (by omega)
              · exact (Vs.lst (Vs.cons (fI.same t1114) Vs.nil) (t14 _ _ f13) m13).mono (by omega) (by omega) (by omega)
              · exact st _ (asc_rev as).1 (by rw [(asc_rev as).2]; omega)
              · exact st _ (by decide +kernel) (Nat.le_trans (show (Str.ofString "zzz").length ≤ 3 by decide +kernel) (by omega))
            | @tup a xs ds ha hs =>
              refine ⟨false, rfl, ?_⟩
              walk_at "rr"
              refine isi_str (.tup ha hs.dq) ?_
              refine ⟨false, rfl, ?_⟩
              walk_at "rr"
              have lx := hs.dq.len
              have pos : 0 < xs.length := by
                rw [lx]
                cases ds with
                | nil => cases z0
                | cons _ _ => exact Nat.succ_pos _
              have vsx : ∃ D', D = D' + 1 ∧ Vs (Dk d c) n W D' H11 xs := by
                cases D with
                | zero => exact absurd fx.de (by show ¬ PyData.depthAll ds + 1 ≤ 0; omega)
                | succ D' => exact ⟨D', rfl, ds, hs, fx.inT⟩
              obtain ⟨D', rfl, vx⟩ := vsx
              have ll : xs.length ≤ W := by
                obtain ⟨es, q, fa⟩ := vx
                have := fa_len fa
                have := q.dq.len
                omega
              refine ⟨d, c, b + 1, xs.length, rfl, dk11, by omega, by omega, by omega, fun r H12 r0 r1 dk12 x12 => ?_⟩
              obtain ⟨j, rfl⟩ : ∃ j : Nat, r = j := ⟨r.toNat, by omega⟩
              walk_at "rr"
              have h12 : H12 a = some (.tup xs) := x12.1 _ _ ha
              have c1 : cutV xs (some ((j : Int) + 1)) none = xs.drop (j + 1) := by
                have := cut_from (xs := xs) (k := j + 1)
                rw [← this]
                rfl
              have c2 : cutV xs none (some ((j : Int) + 1)) = xs.take (j + 1) := by
                have := cut_to (xs := xs) (k := j + 1)
                rw [← this]
                rfl
              have lc : ∀ {us ws : List V}, us.length ≤ xs.length → ws.length ≤ xs.length → us.length + ws.length ≤ 100000 := fun h1 h2 => by omega
              refine sla_of h12 cut_to fun b13 H13 t13 f13 => ?_
              walk_at "rr"
              refine sla_of (t13 _ _ h12) c1 fun b14 H14 t14 f14 => ?_
              walk_at "rr"
              refine catA_of (t14 _ _ f13) f14 rfl (by rw [List.length_take, List.length_drop]; omega) fun b15 H15 t15 f15 => ?_
              walk_at "rr"
              have u15 := (t13.trans t14).trans t15
              refine sla_of (u15 _ _ h12) c2 fun b16 H16 t16 f16 => ?_
              walk_at "rr"
              refine sla_of (t16 _ _ (u15 _ _ h12)) cut_from fun b17 H17 t17 f17 => ?_
              walk_at "rr"
              refine catA_of (t17 _ _ f16) f17 rfl (by rw [List.length_take, List.length_drop]; omega) fun b18 H18 t18 f18 => ?_
              walk_at "rr"
              have u18 := (t16.trans t17).trans t18
              have g15 := u18 _ _ f15
              have h18 := u18 _ _ (u15 _ _ h12)
              have v18 := u15.trans u18
              refine k_rv ?_
              walk_at "rr"
              refine Or.inr ⟨a, xs, rfl, SqT.of h18, fun b19 hb19 => ?_⟩
              generalize e19 : upd H18 b19 _ = H19
              obtain ⟨t19, f19⟩ := upd_tells e19 hb19
              clear e19 hb19
              walk_at "rr"
              refine k_listT (SqT.of (t19 _ _ h18)) fun b20 hb20 => ?_
              have dk19 : Deck d c (b + 1 + 1) H19 := (dk12.same v18).same t19
              have m20 := dk19.off hb20
              generalize e20 : upd H19 b20 _ = H20
              obtain ⟨t20, f20⟩ := upd_tells e20 hb20
              clear e20 hb20
              walk_at "rr"
              refine ⟨k_sz rfl, fun b21 hb21 => ?_⟩
              generalize e21 : upd H20 b21 _ = H21
              obtain ⟨t21, f21⟩ := upd_tells e21 hb21
              clear e21 hb21
              walk_at "rr"
              have h21 := t21 _ _ (t20 _ _ (t19 _ _ h18))
              refine catA_of h21 f21 rfl (by show xs.length + 1 ≤ 100000; omega) fun b22 H22 t22 f22 => ?_
              walk_at "rr"
              have h22 := t22 _ _ h21
              refine ⟨k_sz rfl, fun b23 hb23 => ?_⟩
              generalize e23 : upd H22 b23 _ = H23
              obtain ⟨t23, f23⟩ := upd_tells e23 hb23
              clear e23 hb23
              walk_at "rr"
              have h23 := t23 _ _ h22
              refine sla_of h23 (cut_from (k := 1)) fun b24 H24 t24 f24 => ?_
              walk_at "rr"
              have h24 := t24 _ _ h23
              refine sla_of h24 (cut_to (k := 1)) fun b25 H25 t25 f25 => ?_
              walk_at "rr"
              refine catA_of (t25 _ _ h24) f25 rfl (by rw [List.length_take]; omega) fun b26 H26 t26 f26 => ?_
              walk_at "rr"
              have dk26 : Deck d c (b + 1 + 1) H26 := ((((((dk19.same t20).same t21).same t22).same t23).same t24).same t25).same t26
              refine ⟨k_sz rfl, fun b27 hb27 => ?_⟩
              have m27 := dk26.off hb27
              generalize e27 : upd H26 b27 _ = H27
              obtain ⟨t27, f27⟩ := upd_tells e27 hb27
              have dk27 := dk26.same t27
              clear e27 hb27
              walk_at "rr"
              have w2627 := t26.trans t27
              have w2427 := (t24.trans t25).trans w2627
              have w2327 := t23.trans w2427
              have w2227 := t22.trans w2327
              have w2127 := t21.trans w2227
              have w2027 := t20.trans w2127
              have w1927 := t19.trans w2027
              have tot27 : Same H12 H27 := v18.trans w1927
              refine ⟨d, c, b27, _, _, rfl, dk27, by omega, m27, f27, Nat.succ_pos _, (by show 8 ≤ 1000; decide), fun y H2 hy dk2 x2 => toQ (2 * W + 200) (D' + 1 + 2) y H2 (Nat.le_refl _) (Nat.le_refl _) (Va.ext ?_ x2) (dk2.mono (by omega)) (x12.trans ((Own.Same.ext tot27).trans x2))⟩
              have vt : Vs (Dk d c) n W D' H27 xs := (vx.ext x12).same tot27
              have two : ∀ {us : List V} {a : Addr}, Vs (Dk d c) n (W + W) D' H27 us → H27 a = some (.tup us) → Va (Dk d c) (n + 1) (2 * W + 200) (D' + 1 + 2) H27 (.ref a) := fun h e => (Vs.tup h e).mono (by omega) (by omega) (by omega)
              simp only [List.mem_cons, List.not_mem_nil, or_false] at hy
              rcases hy with rfl | rfl | rfl | rfl | rfl | rfl | rfl | rfl
              · exact two ((vt.take j).app (vt.drop (j + 1))) (w1927 _ _ g15)
              · exact two ((vt.take (j + 1)).app (vt.drop j)) (w1927 _ _ f18)
              · exact two (vt.rev.mono (Nat.le_refl _) (by omega) (Nat.le_refl _)) (w2027 _ _ f19)
              · exact (Vs.lst vt (w2127 _ _ f20) m20).mono (by omega) (by omega) (by omega)
              · exact (Vs.tup (vt.app (Vs.cons (va_str (W := 1) (by decide +kernel) (by decide +kernel)) Vs.nil)) (w2327 _ _ f22)).mono (by omega) (by omega) (by omega)
              · exact (Vs.tup (Vs.cons (Vs.tup vt (tot27 _ _ h12)) Vs.nil) (w2427 _ _ f23)).mono (by omega) (by omega) (by omega)
              · exact two ((vt.drop 1).mono (Nat.le_refl _) (by omega) (Nat.le_refl _)) ((t25.trans w2627) _ _ f24)
              · exact two (vt.app (vt.take 1)) (t27 _ _ f26)
            | bl _ => cases z2
            | non => cases z1
            | lst _ _ _ => cases z1
            | d0 _ _ => cases z1
            | d1 _ _ => cases z1
      · rw [Bool.not_eq_true] at z1
        refine ⟨false, by rw [z1], ?_⟩
        walk_at "rr"
        exact fin H10 b (by omega) (Own.Same.ext s810) dk10
end
end K01.L

set_option Elab.async false
set_option maxRecDepth 100000
set_option maxHeartbeats 4000000
set_option linter.unusedVariables false
namespace K01.L
open PySem PySem.Spec PyProof.Rows L2 Own StX
-- steps
local macro_rules | `(tactic| walk_at "lk") => `(tactic| first
  | assumption | exact upd_same
  | ((with_reducible refine' lk_new ?e (by assumption)); (case e => walk_at "lk"))
  | ((with_reducible refine' lk_ext (by assumption) ?e); (case e => walk_at "lk"))
  | ((with_reducible refine' lk_same (by assumption) ?e); (case e => walk_at "lk")))
local macro_rules | `(tactic| walk_at "sq") => `(tactic| first | assumption | exact SqL.of (by walk_at "lk") | exact SqT.of (by walk_at "lk"))
local macro_rules | `(tactic| walk_at "r1") => `(tactic| first
  | with_reducible refine k_seq ?_ | with_reducible refine k_asg ?_ | with_reducible refine k_ret ?_ | with_reducible refine k_drop ?_ | with_reducible refine k_next ?_ | with_reducible refine k_ifS ?_
  | ((with_reducible refine' k_var ?e ?_); (case e => exact rfl)) | with_reducible refine k_c ?_ | with_reducible refine k_op ?_ | with_reducible refine k_un ?_ | with_reducible refine k_test ?_ | with_reducible refine k_B ?_
  | with_reducible refine k_and ?_ | with_reducible refine k_or ?_ | with_reducible refine k_not ?_ | with_reducible refine k_andV ?_ | with_reducible refine k_orV ?_ | with_reducible refine k_notV ?_ | with_reducible refine k_if ?_
  | with_reducible refine k_nil ?_ | with_reducible refine k_cons ?_ | with_reducible refine k_tup ?_ | with_reducible refine k_lst ?_ | with_reducible refine k_call ?_ | with_reducible refine k_cb ?_ | with_reducible refine k_ck ?_
  | with_reducible refine k_par ?_ | with_reducible refine k_par1 ?_ | with_reducible refine k_tr ?_ | with_reducible refine k_rI0 ?_ | with_reducible refine k_rU ?_
  | with_reducible refine k_gN ?_ | with_reducible refine k_gS ?_ | with_reducible refine k_gNil ?_ | with_reducible refine k_gCons ?_ | with_reducible refine k_bm0 ?_ | with_reducible refine k_bm ?_
  | with_reducible refine k_for ?_ | with_reducible refine k_iL ?_ | with_reducible refine k_iT ?_ | with_reducible refine k_iR1 ?_ | ((with_reducible refine k_iR1i ?e ?_); (case e => first | decide | exact ⟨by omega, by omega⟩))
  | with_reducible refine k_max ?_ | with_reducible refine k_isB ?_ | with_reducible refine k_sl ?_ | with_reducible refine k_noP ?_ | with_reducible refine k_part ?_ | with_reducible refine k_partI ?_ | with_reducible refine k_revL ?_
  | ((with_reducible refine' k_ixqT ?e ?f ?_); (case e => walk_at "sq"); (case f => first | exact rfl | exact atI_head))
  | ((with_reducible refine' k_ixqL ?e ?f ?_); (case e => walk_at "sq"); (case f => first | exact rfl | exact atI_head))
  | ((with_reducible refine' k_lenL ?e ?_); (case e => walk_at "sq"))
  | ((with_reducible refine' k_lenT ?e ?_); (case e => walk_at "sq"))
  | ((with_reducible refine' k_ixL ?e ?f ?_); (case e => walk_at "sq"); (case f => first | exact rfl | exact atI_head))
  | ((with_reducible refine' k_ixT ?e ?f ?_); (case e => walk_at "sq"); (case f => first | exact rfl | exact atI_head))
  | ((with_reducible refine k_eq ?e ?_); (case e => exact rfl)) | ((with_reducible refine k_ne ?e ?_); (case e => exact rfl))
  | ((with_reducible refine k_rI ?e ?_); (case e => first | assumption | omega | decide | exact ⟨by omega, by omega⟩ | exact .inl ⟨by omega, by omega⟩ | exact .inr ⟨by omega, by omega⟩)))
local macro_rules | `(tactic| walk_at "rd") => `(tactic| repeat walk_at "r1")
local macro_rules | `(tactic| walk_at "r2") => `(tactic| first
  | walk_at "r1"
  | with_reducible refine k_ifTt ?_ | with_reducible refine k_ifFf ?_ | with_reducible refine k_ifNt ?_ | with_reducible refine k_ifNf ?_
  | with_reducible refine k_makeR ?_ | with_reducible refine k_tJ ?_ | with_reducible refine k_tJc ?_ | with_reducible refine k_tJn ?_ | with_reducible refine k_fmt ?_ | with_reducible refine k_lc ?_ | with_reducible refine k_din ?_ | with_reducible refine k_fld ?_ | with_reducible refine k_dget ?_
  | with_reducible refine k_dput ?_
  | with_reducible refine k_isNv ?_
  | with_reducible refine k_notNv ?_
  | with_reducible refine k_str ?_
  | with_reducible refine k_enumT ?_
  | with_reducible refine k_zipA ?_
  | with_reducible refine k_chain ?_
  | ((with_reducible refine' k_dgS ?e dkv_cells ?_); (case e => walk_at "lk"))
  | ((with_reducible refine' k_dgS ?e dkv_mixed ?_); (case e => walk_at "lk"))
  | ((with_reducible refine' k_dgS ?e dkv_turn ?_); (case e => walk_at "lk")))
local macro_rules | `(tactic| walk_at "rr") => `(tactic| repeat walk_at "r2")
-- steps end
theorem put_at {M : Addr → Prop} {n w W D : Nat} {H : Hp} {us ws : List V} {v : V} {ds es : List PyData} (hd : DnAll M H us ds) (he : DnAll M H ws es) (f : FA n (W - w - 1) D (ds ++ es)) (hw : w + 1 ≤ W) (h : Va M (n + 1) (3 * w + 200) (D + 2) H v) :
    Vs M (n + 1) (3 * W + 200) (D + 2) H ((us ++ [v]) ++ ws) := by
  obtain ⟨x, dx, fx⟩ := h
  have p := f.parts
  have we := f.we
  rw [weight_app] at we
  have e1 : PyData.weightAll [x] = x.weight + 1 := rfl
  have wx := fx.we
  refine ⟨(ds ++ [x]) ++ es, (hd.app (.cons dx .nil)).app he, ⟨fineAll_app (fineAll_app (fineAll_mono (Nat.le_succ _) p.1.fi) ?_) (fineAll_mono (Nat.le_succ _) p.2.fi), ?_, depth_app (depth_app (Nat.le_trans p.1.de (by omega)) ?_) (Nat.le_trans p.2.de (by omega))⟩⟩
  · show (_ && _) = true
    rw [fx.fi]
    rfl
  · rw [weight_app, weight_app, e1]
    omega
  · show max _ 0 ≤ _
    exact Nat.max_le.mpr ⟨fx.de, Nat.zero_le _⟩
section
variable {P : Program} {w : World} {K : PySem.W.Frag} {mg : Str → Option Value} {g0 : Heap} {C N : Addr}
def spBent : Nat → Sp
  | 0 => fun _ _ _ _ => False
  | m + 1 => fun vs H Q _ => ∃ (d c : Addr) (b : Int) (v : V) (n W D : Nat), vs = [.ref d, v] ∧ Deck d c b H ∧ b + 5 * (m + 1) ≤ 800000000 ∧ Va (Dk d c) n W D H v ∧ n ≤ 900 ∧ W ≤ 1000 ∧ D ≤ m ∧ m ≤ 40 ∧
    ∀ v' H', Va (Dk d c) (n + 1) (3 * W + 200) (D + 2) H' v' → Deck d c (b + 5 * (m + 1)) H' → Ext (Dk d c) H H' → Q v' H'
theorem ok_bent {f : Addr} {fd : FuncData} (F : Fun K "_law_bent" "_law_bent" s_bent f fd) (bd : Binds K fd ["_law_deck_here", "_law_it"] []) (at_ : mg "_law_bent" = some (.ref f)) (kp : PySem.W.keepIn K (.ref f) = true)
    (C_draw : Cal P w K mg g0 "_law_draw" 1 ["_law_deck_here", "_law_many"] spDraw) (C_other : Cal P w K mg g0 "_law_other" 3 ["_law_deck_here", "_law_it"] spOther)
    (z_isinstance : mg "isinstance" = none) (z_tuple : mg "tuple" = none) (z_len : mg "len" = none) : ∀ m, GOk P w K mg g0 CX0 (3 + m) f fd ["_law_deck_here", "_law_it"] (spBent m)
  | 0 => ⟨fun _ _ _ _ h => h.elim, fun _ _ _ _ _ _ _ _ _ _ _ _ _ _ h => h.elim⟩
  | m + 1 => by
    have C_bent : Cal P w K mg g0 "_law_bent" (3 + m) ["_law_deck_here", "_law_it"] (spBent m) := ⟨f, fd, ok_bent F bd at_ kp C_draw C_other z_isinstance z_tuple z_len m, bd, at_, kp⟩
    have nd := sc_bent.nd
    refine okG (k := 3 + m) F sc_bent (fun vs H Q E h => ?_) (fun cdv A up s H vs Q E qt hr h => ?_)
    · obtain ⟨d, c, b, v, n, W, D, rfl, _⟩ := h
      rfl
    · obtain ⟨d, c, b, v, n, W, D, rfl, dk, hb, hv, hn, hW, hD, hm, k⟩ := h
      refine ⟨_, (pss_cons (ps_if (PW.pt (pw_or (pt_not (pt_val (pe_callB call_isi (by rfl) z_isinstance (by decide +kernel) (pa_cons (pv 1) (pa_cons (pe_bltn (v := .ty "tuple") (by rfl) z_tuple PyProof.Rows.boot_tuple rfl) pa_nil))))) (pw_or (pt_cmpR (op_eqT0 hr.units) (pv 1) (pe_tup pa_nil) (nomark _)) (pw_or1 (pt_cmpR op_eq (pe_c C_draw qt (hr.mono (by omega)) (pa_cons (pv 0) (pa_cons pe_int pa_nil))) pe_int (nomark _)))))) (pss_one (ps_ret (pe_c C_other qt (hr.mono (by omega)) (pa_cons (pv 0) (pa_cons (pv 1) pa_nil))))) pss_nil)
        (pss_cons (ps_set (i := 2) nd rfl (Or.inl rfl) (pe_c C_draw qt (hr.mono (by omega)) (pa_cons (pv 0) (pa_cons (pe_callB (c_lenK (K := K) rfl) (by rfl) z_len (by decide +kernel) (pa_cons (pv 1) pa_nil)) pa_nil))))
        (pss_one (ps_ret (pe_op op_catA (pe_op op_catA (pe_slice sl_tupA (pv 1) po_none (po_some (pv 2))) (pe_tup (pa_cons (pe_c C_bent qt (hr.mono (by omega)) (pa_cons (pv 0) (pa_cons (pe_ix ix_tup (pv 1) (pv 2) (fun _ _ => rfl)) pa_nil))) pa_nil))) (pe_slice sl_tupA (pv 1) (po_some (pe_op op_add (pv 2) pe_int)) po_none)))))), ?_⟩
      have fin : ∀ H' (b' : Int), b' ≤ b + 1 → Ext (Dk d c) H H' → Deck d c b' H' → spOther [.ref d, v] H' Q E0 := fun H' b' hb' x' dk' =>
        ⟨d, c, b', v, n, W, D, rfl, dk', by omega, hv.ext x', hn, hW, by omega, fun v' H2 hv2 dk2 x2 => k v' H2 (hv2.mono (Nat.le_refl _) (by omega) (Nat.le_refl _)) (dk2.mono (by omega)) (x'.trans x2)⟩
      obtain ⟨x, dx, fx⟩ := hv
      walk_at "rr"
      refine isi_tup dx.dq ?_
      by_cases ht : ∃ ds, x = .tuple ds
      · obtain ⟨ds, rfl⟩ := ht
        refine ⟨true, rfl, ?_⟩
        walk_at "rr"
        refine ⟨k_sz rfl, fun b1 hb1 => ?_⟩
        generalize e1 : upd H b1 _ = H1
        obtain ⟨t1, f1⟩ := upd_tells e1 hb1
        have dk1 := dk.same t1
        clear e1 hb1
        walk_at "rr"
        have dx1 := dx.ext (M := Dk d c) (Own.Same.ext t1)
        refine ⟨_, b1, dx1.dq, rfl, SqT.of f1, ?_⟩
        by_cases z0 : tup0 (.tuple ds) = true
        · rw [z0]
          refine ⟨true, rfl, k_ifTt ?_⟩
          walk_at "rr"
          exact fin H1 b (by omega) (Own.Same.ext t1) dk1
        · rw [Bool.not_eq_true] at z0
          rw [z0]
          refine ⟨false, rfl, k_ifFf ?_⟩
          walk_at "rr"
          refine ⟨d, c, b, 5, rfl, dk1, by omega, by decide, by decide, fun r H2 r0 r1 dk2 x2 => ?_⟩
          walk_at "rr"
          have dx2 := dx1.ext x2
          have x02 : Ext (Dk d c) H H2 := (Own.Same.ext t1).trans x2
          refine k_iteD (fun z3 => ?_) fun z3 => ?_
          · walk_at "rr"
            exact fin H2 _ (by omega) x02 dk2
          · walk_at "rr"
            cases dx2 with
            | @tup a xs _ ha hs =>
            have lx := hs.dq.len
            have pos : 0 < xs.length := by
              rw [lx]
              cases ds with
              | nil => cases z0
              | cons _ _ => exact Nat.succ_pos _
            match D, m, hD, fx, C_bent, hm, k with
            | 0, _, _, fx, _, _, _ => exact absurd fx.de (by show ¬ PyData.depthAll ds + 1 ≤ 0; omega)
            | D' + 1, 0, hD, _, _, _, _ => exact absurd hD (by omega)
            | D' + 1, m' + 1, hD, fx, C_bent, hm, k =>
            have vx : Vs (Dk d c) n W D' H2 xs := ⟨ds, hs, fx.inT⟩
            have ll : xs.length ≤ W := by
              have := fa_len fx.inT
              omega
            walk_at "rr"
            refine ⟨d, c, b + 1, xs.length, rfl, dk2, by omega, by omega, by omega, fun r H3 r0 r1 dk3 x3 => ?_⟩
            obtain ⟨j, rfl⟩ : ∃ j : Nat, r = j := ⟨r.toNat, by omega⟩
            have hj : j < xs.length := by omega
            have ex : xs[j]? = some xs[j] := List.getElem?_eq_getElem hj
            generalize xs[j] = y at ex
            have h3 : H3 a = some (.tup xs) := x3.1 _ _ ha
            walk_at "rr"
            refine sla_of h3 cut_to fun b4 H4 t4 f4 => ?_
            walk_at "rr"
            have h4 := t4 _ _ h3
            refine k_ixT (SqT.of h4) (atI_nat ex) ?_
            walk_at "rr"
            obtain ⟨w, hw, hy, dd, ee, q1, q2, fa⟩ := vx.at ex
            have x24 : Ext (Dk d c) H2 H4 := x3.trans (Own.Same.ext t4)
            have dk4 := dk3.same t4
            refine ⟨d, c, _, y, n, w, D', rfl, dk4, by omega, hy.ext x24, hn, by omega, by omega, by omega, fun v' H5 hv5 dk5 x5 => ?_⟩
            walk_at "rr"
            refine ⟨k_sz rfl, fun b6 hb6 => ?_⟩
            generalize e6 : upd H5 b6 _ = H6
            obtain ⟨t6, f6⟩ := upd_tells e6 hb6
            clear e6 hb6
            walk_at "rr"
            have g4 : H6 b4 = some (.tup (xs.take j)) := t6 _ _ (x5.1 _ _ f4)
            refine catA_of g4 f6 rfl (by show (xs.take j).length + 1 ≤ 100000; rw [List.length_take]; omega) fun b7 H7 t7 f7 => ?_
            walk_at "rr"
            have h7 : H7 a = some (.tup xs) := t7 _ _ (t6 _ _ (x5.1 _ _ h4))
            have c1 : cutV xs (some ((j : Int) + 1)) none = xs.drop (j + 1) := by
              have := cut_from (xs := xs) (k := j + 1)
              rw [← this]
              rfl
            refine sla_of h7 c1 fun b8 H8 t8 f8 => ?_
            walk_at "rr"
            refine catA_of (t8 _ _ f7) f8 rfl (by rw [List.length_append, List.length_take, List.length_drop]; show _ + 1 + _ ≤ 100000; omega) fun b9 H9 t9 f9 => ?_
            have t59 : Same H5 H9 := ((t6.trans t7).trans t8).trans t9
            have x29 : Ext (Dk d c) H2 H9 := (x24.trans x5).trans (Own.Same.ext t59)
            refine k (.ref b9) H9 ?_ ((dk5.same t59).mono (by omega)) (x02.trans x29)
            exact (Vs.tup (put_at (q1.ext x29) (q2.ext x29) fa hw (hv5.same t59)) f9).mono (Nat.le_refl _) (Nat.le_refl _) (by omega)
      · have e1 : isT x = false := by
          cases x with
          | tuple ds => exact absurd ⟨ds, rfl⟩ ht
          | _ => rfl
        rw [e1]
        refine ⟨false, rfl, ?_⟩
        walk_at "rr"
        exact fin H b (by omega) (Ext.refl H) dk
end
end K01.L

set_option Elab.async false
set_option maxRecDepth 100000
set_option maxHeartbeats 4000000
set_option linter.unusedVariables false
namespace K01.L
open PySem PySem.Spec PyProof.Rows L2 Own StX
-- steps
local macro_rules | `(tactic| walk_at "lk") => `(tactic| first
  | assumption | exact upd_same
  | ((with_reducible refine' lk_new ?e (by assumption)); (case e => walk_at "lk"))
  | ((with_reducible refine' lk_ext (by assumption) ?e); (case e => walk_at "lk"))
  | ((with_reducible refine' lk_same (by assumption) ?e); (case e => walk_at "lk")))
local macro_rules | `(tactic| walk_at "sq") => `(tactic| first | assumption | exact SqL.of (by walk_at "lk") | exact SqT.of (by walk_at "lk"))
local macro_rules | `(tactic| walk_at "r1") => `(tactic| first
  | with_reducible refine k_seq ?_ | with_reducible refine k_asg ?_ | with_reducible refine k_ret ?_ | with_reducible refine k_drop ?_ | with_reducible refine k_next ?_ | with_reducible refine k_ifS ?_
  | ((with_reducible refine' k_var ?e ?_); (case e => exact rfl)) | with_reducible refine k_c ?_ | with_reducible refine k_op ?_ | with_reducible refine k_un ?_ | with_reducible refine k_test ?_ | with_reducible refine k_B ?_
  | with_reducible refine k_and ?_ | with_reducible refine k_or ?_ | with_reducible refine k_not ?_ | with_reducible refine k_andV ?_ | with_reducible refine k_orV ?_ | with_reducible refine k_notV ?_ | with_reducible refine k_if ?_
  | with_reducible refine k_nil ?_ | with_reducible refine k_cons ?_ | with_reducible refine k_tup ?_ | with_reducible refine k_lst ?_ | with_reducible refine k_call ?_ | with_reducible refine k_cb ?_ | with_reducible refine k_ck ?_
  | with_reducible refine k_par ?_ | with_reducible refine k_par1 ?_ | with_reducible refine k_tr ?_ | with_reducible refine k_rI0 ?_ | with_reducible refine k_rU ?_
  | with_reducible refine k_gN ?_ | with_reducible refine k_gS ?_ | with_reducible refine k_gNil ?_ | with_reducible refine k_gCons ?_ | with_reducible refine k_bm0 ?_ | with_reducible refine k_bm ?_
  | with_reducible refine k_for ?_ | with_reducible refine k_iL ?_ | with_reducible refine k_iT ?_ | with_reducible refine k_iR1 ?_ | ((with_reducible refine k_iR1i ?e ?_); (case e => first | decide | exact ⟨by omega, by omega⟩))
  | with_reducible refine k_max ?_ | with_reducible refine k_isB ?_ | with_reducible refine k_sl ?_ | with_reducible refine k_noP ?_ | with_reducible refine k_part ?_ | with_reducible refine k_partI ?_ | with_reducible refine k_revL ?_
  | ((with_reducible refine' k_ixqT ?e ?f ?_); (case e => walk_at "sq"); (case f => first | exact rfl | exact atI_head))
  | ((with_reducible refine' k_ixqL ?e ?f ?_); (case e => walk_at "sq"); (case f => first | exact rfl | exact atI_head))
  | ((with_reducible refine' k_lenL ?e ?_); (case e => walk_at "sq"))
  | ((with_reducible refine' k_lenT ?e ?_); (case e => walk_at "sq"))
  | ((with_reducible refine' k_ixL ?e ?f ?_); (case e => walk_at "sq"); (case f => first | exact rfl | exact atI_head))
  | ((with_reducible refine' k_ixT ?e ?f ?_); (case e => walk_at "sq"); (case f => first | exact rfl | exact atI_head))
  | ((with_reducible refine k_eq ?e ?_); (case e => exact rfl)) | ((with_reducible refine k_ne ?e ?_); (case e => exact rfl))
  | ((with_reducible refine k_rI ?e ?_); (case e => first | assumption | omega | decide | exact ⟨by omega, by omega⟩ | exact .inl ⟨by omega, by omega⟩ | exact .inr ⟨by omega, by omega⟩)))
local macro_rules | `(tactic| walk_at "rd") => `(tactic| repeat walk_at "r1")
local macro_rules | `(tactic| walk_at "r2") => `(tactic| first
  | walk_at "r1"
  | with_reducible refine k_ifTt ?_ | with_reducible refine k_ifFf ?_ | with_reducible refine k_ifNt ?_ | with_reducible refine k_ifNf ?_
  | with_reducible refine k_makeR ?_ | with_reducible refine k_tJ ?_ | with_reducible refine k_tJc ?_ | with_reducible refine k_tJn ?_ | with_reducible refine k_fmt ?_ | with_reducible refine k_lc ?_ | with_reducible refine k_din ?_ | with_reducible refine k_fld ?_ | with_reducible refine k_dget ?_
  | with_reducible refine k_dput ?_
  | with_reducible refine k_isNv ?_
  | with_reducible refine k_notNv ?_
  | with_reducible refine k_str ?_
  | with_reducible refine k_enumT ?_
  | with_reducible refine k_zipA ?_
  | with_reducible refine k_chain ?_
  | ((with_reducible refine' k_dgS ?e dkv_cells ?_); (case e => walk_at "lk"))
  | ((with_reducible refine' k_dgS ?e dkv_mixed ?_); (case e => walk_at "lk"))
  | ((with_reducible refine' k_dgS ?e dkv_turn ?_); (case e => walk_at "lk")))
local macro_rules | `(tactic| walk_at "rr") => `(tactic| repeat walk_at "r2")
-- steps end
abbrev M0 : Addr → Prop := fun _ => False
/-- a list that is good to be asked -/
def Ls (H : Hp) (v : V) : Prop := ∃ (l : Addr) (xs : List V), v = .ref l ∧ H l = some (.lst xs) ∧ xs.length ≤ 5 ∧ Vs M0 0 1000 20 H xs
theorem Ls.same {H H' : Hp} {v : V} (h : Ls H v) (s : Same H H') : Ls H' v := by
  obtain ⟨l, xs, e, h, k, vx⟩ := h
  exact ⟨l, xs, e, s _ _ h, k, vx.same s⟩
section
variable {P : Program} {w : World} {K : PySem.W.Frag} {mg : Str → Option Value} {g0 : Heap} {C N : Addr}
abbrev s_by_hand : Stmt := top 38
theorem sc_by_hand : FnScope ["_law_one", "_law_found", "_law_some", "_law_name"] ["_law_one"] (defScope s_by_hand) :=
  ⟨rfl, rfl, rfl, by decide +kernel, rfl, by decide +kernel, by decide +kernel⟩
def spByHand : Sp := fun vs H Q _ => ∃ (o : Addr) (x0 x1 x2 x3 : V), vs = [.ref o] ∧ H o = some (.tup [x0, x1, x2, x3]) ∧ Vs M0 0 60 2 H [x0, x1, x2, x3] ∧
  ∀ p vs H', Same H H' → H' p = some (.lst vs) → vs.length ≤ 1000 → (∀ v ∈ vs, Ls H' v) → Q (.ref p) H'
theorem ok_by_hand {f : Addr} {fd : FuncData} (F : Fun K "_law_by_hand" "_law_by_hand" s_by_hand f fd) (z_list : mg "list" = none) : GOk P w K mg g0 CX0 1 f fd ["_law_one"] spByHand := by
  have nd := sc_by_hand.nd
  refine okG F sc_by_hand (fun vs H Q E h => ?_) (fun cdv A up s H vs Q E qt hr h => ?_)
  · obtain ⟨o, x0, x1, x2, x3, rfl, _⟩ := h
    rfl
  · obtain ⟨o, x0, x1, x2, x3, rfl, ho, vx, k⟩ := h
    refine ⟨_, (pss_cons (ps_set (i := 1) nd rfl (Or.inl rfl) (pe_lst (pa_cons (pe_lst pa_nil) (pa_cons (pe_lst (pa_cons pe_non pa_nil)) (pa_cons (pe_lst (pa_cons (pv 0) (pa_cons (pv 0) pa_nil))) (pa_cons (pe_lst (pa_cons (pv 0) (pa_cons pe_non pa_nil))) (pa_cons (pe_lst (pa_cons pe_non (pa_cons (pv 0) pa_nil))) (pa_cons (pe_lst (pa_cons (pv 0) (pa_cons (pe_tup (pa_cons (pe_ix ix_tup (pv 0) pe_int (fun _ _ => rfl)) (pa_cons (pe_tup (pa_cons pe_str pa_nil)) (pa_cons (pe_tup pa_nil) (pa_cons (pe_tup pa_nil) pa_nil))))) pa_nil))) (pa_cons (pe_lst (pa_cons (pe_callTy c_list (by rfl) z_list (by decide +kernel) (pa_cons (pv 0) pa_nil)) pa_nil)) (pa_cons (pe_lst (pa_cons (pe_tup pa_nil) pa_nil)) pa_nil))))))))))
        (pss_cons (ps_expr (pe_bm PySem.F.plainAttrs_list PySem.F.slot_list_append PySem.F.type_list_append mt_append (pv 1) (pa_cons (pe_lc (own := [("_law_name", 3)]) (g := (gName 3)) (tt := tYes) (te := (tTup (tCons (tVar 3) (tCons (tTup (tCons (tC (.str "a")) tNil)) (tCons (tTup tNil) (tCons (tTup tNil) tNil)))))) (by rfl) nd (pi_tup (pe_tup (pa_cons pe_str (pa_cons pe_str (pa_cons pe_str (pa_cons pe_str (pa_cons pe_str pa_nil))))))) (blkOk_by (own := [("_law_name", 3)]) (N := ["_law_one", "_law_found", "_law_some", "_law_name"]) (sc := defScope s_by_hand) (by decide +kernel)) (fun _ _ _ _ _ => by exact (pg_name (i := 3) nd rfl (Or.inl rfl))) (fun _ _ _ _ _ => by exact pts_nil) (fun _ _ _ _ _ => by exact (pe_tup (pa_cons (pv 3) (pa_cons (pe_tup (pa_cons pe_str pa_nil)) (pa_cons (pe_tup pa_nil) (pa_cons (pe_tup pa_nil) pa_nil))))))) pa_nil)))
        (pss_cons (ps_for PassesOwn.never rfl (pi_tup (pe_tup (pa_cons (pe_tup pa_nil) (pa_cons (pe_tup (pa_cons pe_str (pa_cons pe_str pa_nil))) (pa_cons (pe_tup (pa_cons pe_str (pa_cons pe_str (pa_cons pe_str (pa_cons pe_str pa_nil))))) (pa_cons (pe_tup (pa_cons pe_str (pa_cons pe_str (pa_cons pe_str pa_nil)))) (pa_cons (pe_lst (pa_cons pe_str pa_nil)) (pa_cons (pe_tup (pa_cons pe_str (pa_cons pe_int pa_nil))) (pa_cons (pe_tup (pa_cons pe_str pa_nil)) (pa_cons (pe_tup (pa_cons pe_str pa_nil)) pa_nil)))))))))) (pg_name (i := 2) nd rfl (Or.inl rfl)) (pss_one (ps_set (i := 1) nd rfl (Or.inl rfl) (pe_op op_cat (pv 1) (pe_lst (pa_cons (pe_lst (pa_cons (pe_tup (pa_cons pe_str (pa_cons (pv 2) (pa_cons (pe_tup pa_nil) (pa_cons (pe_tup pa_nil) pa_nil))))) pa_nil)) (pa_cons (pe_lst (pa_cons (pe_tup (pa_cons (pv 0) pa_nil)) pa_nil)) (pa_cons (pe_lst (pa_cons (pe_tup (pa_cons pe_str (pa_cons pe_str (pa_cons (pe_tup pa_nil) (pa_cons (pe_tup pa_nil) pa_nil))))) pa_nil)) pa_nil))))))))
        (pss_cons (ps_for PassesOwn.never rfl (pi_tup (pe_tup (pa_cons (pe_tup (pa_cons pe_str (pa_cons pe_str pa_nil))) (pa_cons (pe_tup (pa_cons pe_str (pa_cons pe_str pa_nil))) (pa_cons (pe_tup (pa_cons pe_str pa_nil)) (pa_cons (pe_tup (pa_cons pe_str (pa_cons pe_str (pa_cons pe_str pa_nil)))) (pa_cons (pe_lst (pa_cons pe_str pa_nil)) (pa_cons pe_non (pa_cons pe_str (pa_cons (pe_tup (pa_cons (pe_tup pa_nil) pa_nil)) (pa_cons (pe_tup (pa_cons pe_str (pa_cons pe_str pa_nil))) (pa_cons (pe_tup (pa_cons pe_str pa_nil)) pa_nil)))))))))))) (pg_name (i := 2) nd rfl (Or.inl rfl)) (pss_one (ps_set (i := 1) nd rfl (Or.inl rfl) (pe_op op_cat (pv 1) (pe_lst (pa_cons (pe_lst (pa_cons (pe_tup (pa_cons pe_str (pa_cons (pe_tup (pa_cons pe_str (pa_cons pe_str (pa_cons pe_str pa_nil)))) (pa_cons (pv 2) (pa_cons (pe_tup pa_nil) pa_nil))))) pa_nil)) (pa_cons (pe_lst (pa_cons (pe_tup (pa_cons pe_str (pa_cons (pe_tup (pa_cons pe_str (pa_cons pe_str (pa_cons pe_str pa_nil)))) (pa_cons (pe_tup pa_nil) (pa_cons (pv 2) pa_nil))))) pa_nil)) pa_nil)))))))
        (pss_cons (ps_for PassesOwn.never rfl (pi_tup (pe_tup (pa_cons pe_str (pa_cons pe_str (pa_cons pe_str (pa_cons pe_str (pa_cons pe_str (pa_cons pe_str (pa_cons pe_non (pa_cons pe_int (pa_cons (pe_tup (pa_cons pe_str pa_nil)) (pa_cons pe_str pa_nil)))))))))))) (pg_name (i := 2) nd rfl (Or.inl rfl)) (pss_one (ps_set (i := 1) nd rfl (Or.inl rfl) (pe_op op_cat (pv 1) (pe_lst (pa_cons (pe_lst (pa_cons (pe_tup (pa_cons (pv 2) (pa_cons (pe_tup (pa_cons pe_str pa_nil)) (pa_cons (pe_tup (pa_cons pe_str pa_nil)) (pa_cons (pe_tup (pa_cons pe_str pa_nil)) pa_nil))))) pa_nil)) (pa_cons (pe_lst (pa_cons (pv 0) (pa_cons (pe_tup (pa_cons (pv 2) (pa_cons (pe_tup (pa_cons pe_str pa_nil)) (pa_cons (pe_tup pa_nil) (pa_cons (pe_tup pa_nil) pa_nil))))) (pa_cons (pv 0) pa_nil)))) pa_nil)))))))
        (pss_one (ps_ret (pe_op op_cat (pv 1) (pe_lst (pa_cons (pe_lst (pa_cons (pe_slice sl_tupA (pv 0) po_none (po_some pe_int)) pa_nil)) (pa_cons (pe_lst (pa_cons (pe_op op_catA (pv 0) (pe_tup (pa_cons (pe_tup pa_nil) pa_nil))) pa_nil)) (pa_cons (pe_lst (pa_cons (pv 0) (pa_cons (pe_rev rv_tup (pv 0)) (pa_cons pe_non pa_nil)))) (pa_cons (pe_lst (pa_cons (pe_tup (pa_cons pe_str (pa_cons (pe_tup (pa_cons pe_str pa_nil)) (pa_cons (pe_tup (pa_cons pe_str pa_nil)) (pa_cons (pe_tup (pa_cons pe_str pa_nil)) pa_nil))))) pa_nil)) (pa_cons (pe_lst (pa_cons pe_bl (pa_cons (pv 0) (pa_cons (pv 0) pa_nil)))) pa_nil)))))))))))))), ?_⟩
    have vo : Va M0 0 60 3 H (.ref o) := Vs.tup vx ho
    have v0 : Va M0 0 60 2 H x0 := Vs.get (i := 0) vx rfl
    walk_at "rr"
    have da0 : Same H H := Same.refl _
    refine ⟨k_sz rfl, fun ba1 ha1 => ?_⟩
    generalize ea1 : upd H ba1 _ = Ha1
    obtain ⟨ta1, fa1⟩ := upd_tells ea1 ha1
    clear ea1 ha1
    have da1 := da0.trans ta1
    walk_at "rr"
    refine ⟨k_sz rfl, fun ba2 ha2 => ?_⟩
    generalize ea2 : upd Ha1 ba2 _ = Ha2
    obtain ⟨ta2, fa2⟩ := upd_tells ea2 ha2
    clear ea2 ha2
    have da2 := da1.trans ta2
    walk_at "rr"
    refine ⟨k_sz rfl, fun ba3 ha3 => ?_⟩
    generalize ea3 : upd Ha2 ba3 _ = Ha3
    obtain ⟨ta3, fa3⟩ := upd_tells ea3 ha3
    clear ea3 ha3
    have da3 := da2.trans ta3
    walk_at "rr"
    refine ⟨k_sz rfl, fun ba4 ha4 => ?_⟩
    generalize ea4 : upd Ha3 ba4 _ = Ha4
    obtain ⟨ta4, fa4⟩ := upd_tells ea4 ha4
    clear ea4 ha4
    have da4 := da3.trans ta4
    walk_at "rr"
    refine ⟨k_sz rfl, fun ba5 ha5 => ?_⟩
    generalize ea5 : upd Ha4 ba5 _ = Ha5
    obtain ⟨ta5, fa5⟩ := upd_tells ea5 ha5
    clear ea5 ha5
    have da5 := da4.trans ta5
    walk_at "rr"
    try refine k_ixT (SqT.of (da5 _ _ ho)) rfl ?_
    try walk_at "rr"
    refine ⟨k_sz rfl, fun ba6 ha6 => ?_⟩
    generalize ea6 : upd Ha5 ba6 _ = Ha6
    obtain ⟨ta6, fa6⟩ := upd_tells ea6 ha6
    clear ea6 ha6
    have da6 := da5.trans ta6
    walk_at "rr"
    refine ⟨k_sz rfl, fun ba7 ha7 => ?_⟩
    generalize ea7 : upd Ha6 ba7 _ = Ha7
    obtain ⟨ta7, fa7⟩ := upd_tells ea7 ha7
    clear ea7 ha7
    have da7 := da6.trans ta7
    walk_at "rr"
    refine ⟨k_sz rfl, fun ba8 ha8 => ?_⟩
    generalize ea8 : upd Ha7 ba8 _ = Ha8
    obtain ⟨ta8, fa8⟩ := upd_tells ea8 ha8
    clear ea8 ha8
    have da8 := da7.trans ta8
    walk_at "rr"
    refine ⟨k_sz rfl, fun ba9 ha9 => ?_⟩
    generalize ea9 : upd Ha8 ba9 _ = Ha9
    obtain ⟨ta9, fa9⟩ := upd_tells ea9 ha9
    clear ea9 ha9
    have da9 := da8.trans ta9
    walk_at "rr"
    refine ⟨k_sz rfl, fun ba10 ha10 => ?_⟩
    generalize ea10 : upd Ha9 ba10 _ = Ha10
    obtain ⟨ta10, fa10⟩ := upd_tells ea10 ha10
    clear ea10 ha10
    have da10 := da9.trans ta10
    walk_at "rr"
    refine k_listT (SqT.of (da10 _ _ ho)) fun ba11 ha11 => ?_
    generalize ea11 : upd Ha10 ba11 _ = Ha11
    obtain ⟨ta11, fa11⟩ := upd_tells ea11 ha11
    clear ea11 ha11
    have da11 := da10.trans ta11
    walk_at "rr"
    refine ⟨k_sz rfl, fun ba12 ha12 => ?_⟩
    generalize ea12 : upd Ha11 ba12 _ = Ha12
    obtain ⟨ta12, fa12⟩ := upd_tells ea12 ha12
    clear ea12 ha12
    have da12 := da11.trans ta12
    walk_at "rr"
    refine ⟨k_sz rfl, fun ba13 ha13 => ?_⟩
    generalize ea13 : upd Ha12 ba13 _ = Ha13
    obtain ⟨ta13, fa13⟩ := upd_tells ea13 ha13
    clear ea13 ha13
    have da13 := da12.trans ta13
    walk_at "rr"
    refine ⟨k_sz rfl, fun ba14 ha14 => ?_⟩
    generalize ea14 : upd Ha13 ba14 _ = Ha14
    obtain ⟨ta14, fa14⟩ := upd_tells ea14 ha14
    clear ea14 ha14
    have da14 := da13.trans ta14
    walk_at "rr"
    have ca14 : Same Ha14 Ha14 := Same.refl _
    have ca13 := ta14.trans ca14
    have ca12 := ta13.trans ca13
    have ca11 := ta12.trans ca12
    have ca10 := ta11.trans ca11
    have ca9 := ta10.trans ca10
    have ca8 := ta9.trans ca9
    have ca7 := ta8.trans ca8
    have ca6 := ta7.trans ca7
    have ca5 := ta6.trans ca6
    have ca4 := ta5.trans ca5
    have ca3 := ta4.trans ca4
    have ca2 := ta3.trans ca3
    have ca1 := ta2.trans ca2
    have ca0 := ta1.trans ca1
    have vs1 : ∀ v ∈ [V.ref ba1, V.ref ba2, V.ref ba3, V.ref ba4, V.ref ba5, V.ref ba10, V.ref ba12, V.ref ba14], Ls Ha14 v := by
      intro v hv
      simp only [List.mem_cons, List.not_mem_nil, or_false] at hv
      rcases hv with rfl | rfl | rfl | rfl | rfl | rfl | rfl | rfl
      · exact ⟨ba1, _, rfl, ca1 _ _ fa1, (by show 0 ≤ 5; decide), (Vs.nil (n := 0) (D := 0)).mono (Nat.le_refl _) (by decide) (by decide)⟩
      · exact ⟨ba2, _, rfl, ca2 _ _ fa2, (by show 1 ≤ 5; decide), (Vs.cons ((va_non (W := 0) (D := 0)).mono (Nat.le_refl _) (Nat.le_refl _) (by decide)) (Vs.nil (n := 0) (D := 0))).mono (Nat.le_refl _) (by decide) (by decide)⟩
      · exact ⟨ba3, _, rfl, ca3 _ _ fa3, (by show 2 ≤ 5; decide), (Vs.cons ((vo.same ca0).mono (Nat.le_refl _) (Nat.le_refl _) (by decide)) (Vs.cons ((vo.same ca0).mono (Nat.le_refl _) (Nat.le_refl _) (by decide)) (Vs.nil (n := 0) (D := 3)))).mono (Nat.le_refl _) (by decide) (by decide)⟩
      · exact ⟨ba4, _, rfl, ca4 _ _ fa4, (by show 2 ≤ 5; decide), (Vs.cons ((vo.same ca0).mono (Nat.le_refl _) (Nat.le_refl _) (by decide)) (Vs.cons ((va_non (W := 0) (D := 0)).mono (Nat.le_refl _) (Nat.le_refl _) (by decide)) (Vs.nil (n := 0) (D := 3)))).mono (Nat.le_refl _) (by decide) (by decide)⟩
      · exact ⟨ba5, _, rfl, ca5 _ _ fa5, (by show 2 ≤ 5; decide), (Vs.cons ((va_non (W := 0) (D := 0)).mono (Nat.le_refl _) (Nat.le_refl _) (by decide)) (Vs.cons ((vo.same ca0).mono (Nat.le_refl _) (Nat.le_refl _) (by decide)) (Vs.nil (n := 0) (D := 3)))).mono (Nat.le_refl _) (by decide) (by decide)⟩
      · exact ⟨ba10, _, rfl, ca10 _ _ fa10, (by show 2 ≤ 5; decide), (Vs.cons ((vo.same ca0).mono (Nat.le_refl _) (Nat.le_refl _) (by decide)) (Vs.cons (((Vs.tup (Vs.cons ((v0.same ca0).mono (Nat.le_refl _) (Nat.le_refl _) (by decide)) (Vs.cons (((Vs.tup (Vs.cons ((va_str (W := 1) (D := 0) (by decide +kernel) (by decide +kernel)).mono (Nat.le_refl _) (Nat.le_refl _) (by decide)) (Vs.nil (n := 0) (D := 0))) (ca6 _ _ fa6)).mono (n' := 0) (W' := 2) (D' := 1) (Nat.le_refl _) (by decide) (by decide)).mono (Nat.le_refl _) (Nat.le_refl _) (by decide)) (Vs.cons (((Vs.tup (Vs.nil (n := 0) (D := 0)) (ca7 _ _ fa7)).mono (n' := 0) (W' := 0) (D' := 1) (Nat.le_refl _) (by decide) (by decide)).mono (Nat.le_refl _) (Nat.le_refl _) (by decide)) (Vs.cons (((Vs.tup (Vs.nil (n := 0) (D := 0)) (ca8 _ _ fa8)).mono (n' := 0) (W' := 0) (D' := 1) (Nat.le_refl _) (by decide) (by decide)).mono (Nat.le_refl _) (Nat.le_refl _) (by decide)) (Vs.nil (n := 0) (D := 2)))))) (ca9 _ _ fa9)).mono (n' := 0) (W' := 66) (D' := 3) (Nat.le_refl _) (by decide) (by decide)).mono (Nat.le_refl _) (Nat.le_refl _) (by decide)) (Vs.nil (n := 0) (D := 3)))).mono (Nat.le_refl _) (by decide) (by decide)⟩
      · exact ⟨ba12, _, rfl, ca12 _ _ fa12, (by show 1 ≤ 5; decide), (Vs.cons (((Vs.lst (vx.same ca0) (ca11 _ _ fa11) (fun h => h)).mono (n' := 0) (W' := 60) (D' := 4) (Nat.le_refl _) (by decide) (by decide)).mono (Nat.le_refl _) (Nat.le_refl _) (by decide)) (Vs.nil (n := 0) (D := 4))).mono (Nat.le_refl _) (by decide) (by decide)⟩
      · exact ⟨ba14, _, rfl, ca14 _ _ fa14, (by show 1 ≤ 5; decide), (Vs.cons (((Vs.tup (Vs.nil (n := 0) (D := 0)) (ca13 _ _ fa13)).mono (n' := 0) (W' := 0) (D' := 1) (Nat.le_refl _) (by decide) (by decide)).mono (Nat.le_refl _) (Nat.le_refl _) (by decide)) (Vs.nil (n := 0) (D := 1))).mono (Nat.le_refl _) (by decide) (by decide)⟩
    refine ⟨k_sz rfl, fun fo hfo => ?_⟩
    generalize eH : upd Ha14 fo _ = Hf
    obtain ⟨tf, ff⟩ := upd_tells eH hfo
    clear eH
    walk_at "rr"
    refine ⟨Or.inl ⟨rfl, _, SqL.of ff⟩, ?_⟩
    walk_at "rr"
    refine ⟨k_sz rfl, fun bq hbq => ?_⟩
    generalize eq : upd Hf bq _ = Hq
    obtain ⟨tq, fq⟩ := upd_tells eq hbq
    clear eq hbq
    walk_at "rr"
    refine ⟨bq, rfl, ⟨_, SqT.of fq⟩, fun D9 hD9 => ?_⟩
    have five : ∀ v ∈ [V.str (Str.ofString "e"), V.str (Str.ofString "d"), V.str (Str.ofString "c"), V.str (Str.ofString "b"), V.str (Str.ofString "a")], ∃ z, v = V.str z ∧ Asc z ∧ z.length ≤ 1 := by
      intro v hv
      simp only [List.mem_cons, List.not_mem_nil, or_false] at hv
      rcases hv with rfl | rfl | rfl | rfl | rfl
      · exact ⟨_, rfl, by decide +kernel, by decide +kernel⟩
      · exact ⟨_, rfl, by decide +kernel, by decide +kernel⟩
      · exact ⟨_, rfl, by decide +kernel, by decide +kernel⟩
      · exact ⟨_, rfl, by decide +kernel, by decide +kernel⟩
      · exact ⟨_, rfl, by decide +kernel, by decide +kernel⟩
    generalize hfive : [V.str (Str.ofString "e"), V.str (Str.ofString "d"), V.str (Str.ofString "c"), V.str (Str.ofString "b"), V.str (Str.ofString "a")] = fives at five fq ⊢
    have lfive : fives.length = 5 := by rw [← hfive]; rfl
    clear hfive
    let M9 : Addr → Prop := fun a => a = D9 ∨ a = fo
    have hDf : D9 ≠ fo := fun z => by
      rw [z, tq _ _ ff] at hD9
      cases hD9
    refine lc_it (walk_tup (xs := fives)) (fun i H' => ∃ vs : List V, H' D9 = some (.lst vs) ∧ vs.length = i ∧ Vs M9 0 (20 * i) 3 H' vs ∧ Same Hq H') ⟨[], upd_same, rfl, Vs.nil.mono (Nat.le_refl _) (Nat.zero_le _) (Nat.le_refl _), Same.upd hD9⟩ (fun i H' _ h => ?_) (fun i x H8 H9 hi h y => ?_) fun H8 h => ?_
    · obtain ⟨_, _, _, _, h⟩ := h
      exact SqT.of (h _ _ fq)
    · obtain ⟨vs, hD, lv, vv, s8⟩ := h
      obtain ⟨rfl, y⟩ := y
      have e : fives[i]? = some x := y
      obtain ⟨z, rfl, az, lz⟩ := five x (List.mem_of_getElem? e)
      have hi5 : i < 5 := by
        have := (List.getElem?_eq_some_iff.mp e).1
        omega
      walk_at "rr"
      refine ⟨rfl, k_yes ?_⟩
      walk_at "rr"
      have vz : Va M9 0 1 0 H9 (V.str z) := va_str az lz
      have dc0 : Same H9 H9 := Same.refl _
      refine ⟨k_sz rfl, fun bc1 hc1 => ?_⟩
      generalize ec1 : upd H9 bc1 _ = Hc1
      obtain ⟨tc1, fc1⟩ := upd_tells ec1 hc1
      clear ec1 hc1
      have dc1 := dc0.trans tc1
      walk_at "rr"
      refine ⟨k_sz rfl, fun bc2 hc2 => ?_⟩
      generalize ec2 : upd Hc1 bc2 _ = Hc2
      obtain ⟨tc2, fc2⟩ := upd_tells ec2 hc2
      clear ec2 hc2
      have dc2 := dc1.trans tc2
      walk_at "rr"
      refine ⟨k_sz rfl, fun bc3 hc3 => ?_⟩
      generalize ec3 : upd Hc2 bc3 _ = Hc3
      obtain ⟨tc3, fc3⟩ := upd_tells ec3 hc3
      clear ec3 hc3
      have dc3 := dc2.trans tc3
      walk_at "rr"
      refine ⟨k_sz rfl, fun bc4 hc4 => ?_⟩
      generalize ec4 : upd Hc3 bc4 _ = Hc4
      obtain ⟨tc4, fc4⟩ := upd_tells ec4 hc4
      clear ec4 hc4
      have dc4 := dc3.trans tc4
      walk_at "rr"
      have cc4 : Same Hc4 Hc4 := Same.refl _
      have cc3 := tc4.trans cc4
      have cc2 := tc3.trans cc3
      have cc1 := tc2.trans cc2
      have cc0 := tc1.trans cc1
      refine ⟨_, cc0 _ _ hD, k_szL (by omega), _, upd_same, by rw [List.length_append, lv]; rfl, ?_, same_off (s8.trans cc0) hD9⟩
      have xx : Ext M9 Hc4 (upd Hc4 D9 (.lst (vs ++ [V.ref bc4]))) := Ext.upd (cc0 _ _ hD) (.inl rfl) fun _ z => by cases z
      exact ((vv.same cc0).app (Vs.cons (((Vs.tup (Vs.cons ((vz.same cc0).mono (Nat.le_refl _) (Nat.le_refl _) (by decide)) (Vs.cons (((Vs.tup (Vs.cons ((va_str (W := 1) (D := 0) (by decide +kernel) (by decide +kernel)).mono (Nat.le_refl _) (Nat.le_refl _) (by decide)) (Vs.nil (n := 0) (D := 0))) (cc1 _ _ fc1)).mono (n' := 0) (W' := 2) (D' := 1) (Nat.le_refl _) (by decide) (by decide)).mono (Nat.le_refl _) (Nat.le_refl _) (by decide)) (Vs.cons (((Vs.tup (Vs.nil (n := 0) (D := 0)) (cc2 _ _ fc2)).mono (n' := 0) (W' := 0) (D' := 1) (Nat.le_refl _) (by decide) (by decide)).mono (Nat.le_refl _) (Nat.le_refl _) (by decide)) (Vs.cons (((Vs.tup (Vs.nil (n := 0) (D := 0)) (cc3 _ _ fc3)).mono (n' := 0) (W' := 0) (D' := 1) (Nat.le_refl _) (by decide) (by decide)).mono (Nat.le_refl _) (Nat.le_refl _) (by decide)) (Vs.nil (n := 0) (D := 1)))))) (cc4 _ _ fc4)).mono (n' := 0) (W' := 7) (D' := 2) (Nat.le_refl _) (by decide) (by decide)).mono (Nat.le_refl _) (Nat.le_refl _) (by decide)) Vs.nil)).ext xx |>.mono (Nat.le_refl _) (by omega) (Nat.le_refl _)
    · obtain ⟨vs5, hD, lv, vv, s8⟩ := h
      rw [lfive] at lv
      walk_at "rr"
      refine k_app (s8 _ _ (tq _ _ ff)) (by rw [sizeLine_eq]; show 8 < _; decide) ?_
      have sd : Same Ha14 (upd H8 fo (.lst ([V.ref ba1, V.ref ba2, V.ref ba3, V.ref ba4, V.ref ba5, V.ref ba10, V.ref ba12, V.ref ba14] ++ [V.ref D9]))) := same_off ((tf.trans tq).trans s8) hfo
      have fd2 : (upd H8 fo (.lst ([V.ref ba1, V.ref ba2, V.ref ba3, V.ref ba4, V.ref ba5, V.ref ba10, V.ref ba12, V.ref ba14] ++ [V.ref D9]))) D9 = some (.lst vs5) := (upd_ne hDf).trans hD
      have vv2 : Vs M9 0 1000 20 (upd H8 fo (.lst ([V.ref ba1, V.ref ba2, V.ref ba3, V.ref ba4, V.ref ba5, V.ref ba10, V.ref ba12, V.ref ba14] ++ [V.ref D9]))) vs5 := (vv.ext (Ext.upd (s8 _ _ (tq _ _ ff)) (.inr rfl) fun _ z => by cases z)).mono (Nat.le_refl _) (by rw [lfive]; decide) (by decide)
      have fo2 := upd_same (H := H8) (a := fo) (o := .lst ([V.ref ba1, V.ref ba2, V.ref ba3, V.ref ba4, V.ref ba5, V.ref ba10, V.ref ba12, V.ref ba14] ++ [V.ref D9]))
      have ls0 : ∀ v ∈ [V.ref ba1, V.ref ba2, V.ref ba3, V.ref ba4, V.ref ba5, V.ref ba10, V.ref ba12, V.ref ba14] ++ [V.ref D9], Ls (upd H8 fo (.lst ([V.ref ba1, V.ref ba2, V.ref ba3, V.ref ba4, V.ref ba5, V.ref ba10, V.ref ba12, V.ref ba14] ++ [V.ref D9]))) v := fun v hv => by
        rcases List.mem_append.mp hv with hv | hv
        · exact (vs1 v hv).same sd
        · rw [List.mem_singleton] at hv
          subst hv
          exact ⟨D9, vs5, rfl, fd2, by omega, vv2.weak fun _ z => z.elim⟩
      have sH : Same H (upd H8 fo (.lst ([V.ref ba1, V.ref ba2, V.ref ba3, V.ref ba4, V.ref ba5, V.ref ba10, V.ref ba12, V.ref ba14] ++ [V.ref D9]))) := ca0.trans sd
      have lf0 : ([V.ref ba1, V.ref ba2, V.ref ba3, V.ref ba4, V.ref ba5, V.ref ba10, V.ref ba12, V.ref ba14] ++ [V.ref D9]).length ≤ 9 := Nat.le_refl _
      generalize [V.ref ba1, V.ref ba2, V.ref ba3, V.ref ba4, V.ref ba5, V.ref ba10, V.ref ba12, V.ref ba14] ++ [V.ref D9] = f0 at ls0 fo2 sH lf0 ⊢
      generalize upd H8 fo (.lst f0) = Hd at ls0 fo2 sH ⊢
      walk_at "rr"
      have dq1_0 : Same Hd Hd := Same.refl _
      refine ⟨k_sz rfl, fun bq1_1 hq1_1 => ?_⟩
      generalize eq1_1 : upd Hd bq1_1 _ = Hq1_1
      obtain ⟨tq1_1, fq1_1⟩ := upd_tells eq1_1 hq1_1
      clear eq1_1 hq1_1
      have dq1_1 := dq1_0.trans tq1_1
      walk_at "rr"
      refine ⟨k_sz rfl, fun bq1_2 hq1_2 => ?_⟩
      generalize eq1_2 : upd Hq1_1 bq1_2 _ = Hq1_2
      obtain ⟨tq1_2, fq1_2⟩ := upd_tells eq1_2 hq1_2
      clear eq1_2 hq1_2
      have dq1_2 := dq1_1.trans tq1_2
      walk_at "rr"
      refine ⟨k_sz rfl, fun bq1_3 hq1_3 => ?_⟩
      generalize eq1_3 : upd Hq1_2 bq1_3 _ = Hq1_3
      obtain ⟨tq1_3, fq1_3⟩ := upd_tells eq1_3 hq1_3
      clear eq1_3 hq1_3
      have dq1_3 := dq1_2.trans tq1_3
      walk_at "rr"
      refine ⟨k_sz rfl, fun bq1_4 hq1_4 => ?_⟩
      generalize eq1_4 : upd Hq1_3 bq1_4 _ = Hq1_4
      obtain ⟨tq1_4, fq1_4⟩ := upd_tells eq1_4 hq1_4
      clear eq1_4 hq1_4
      have dq1_4 := dq1_3.trans tq1_4
      walk_at "rr"
      refine ⟨k_sz rfl, fun bq1_5 hq1_5 => ?_⟩
      generalize eq1_5 : upd Hq1_4 bq1_5 _ = Hq1_5
      obtain ⟨tq1_5, fq1_5⟩ := upd_tells eq1_5 hq1_5
      clear eq1_5 hq1_5
      have dq1_5 := dq1_4.trans tq1_5
      walk_at "rr"
      refine ⟨k_sz rfl, fun bq1_6 hq1_6 => ?_⟩
      generalize eq1_6 : upd Hq1_5 bq1_6 _ = Hq1_6
      obtain ⟨tq1_6, fq1_6⟩ := upd_tells eq1_6 hq1_6
      clear eq1_6 hq1_6
      have dq1_6 := dq1_5.trans tq1_6
      walk_at "rr"
      refine ⟨k_sz rfl, fun bq1_7 hq1_7 => ?_⟩
      generalize eq1_7 : upd Hq1_6 bq1_7 _ = Hq1_7
      obtain ⟨tq1_7, fq1_7⟩ := upd_tells eq1_7 hq1_7
      clear eq1_7 hq1_7
      have dq1_7 := dq1_6.trans tq1_7
      walk_at "rr"
      refine ⟨k_sz rfl, fun bq1_8 hq1_8 => ?_⟩
      generalize eq1_8 : upd Hq1_7 bq1_8 _ = Hq1_8
      obtain ⟨tq1_8, fq1_8⟩ := upd_tells eq1_8 hq1_8
      clear eq1_8 hq1_8
      have dq1_8 := dq1_7.trans tq1_8
      walk_at "rr"
      refine ⟨k_sz rfl, fun bq1_9 hq1_9 => ?_⟩
      generalize eq1_9 : upd Hq1_8 bq1_9 _ = Hq1_9
      obtain ⟨tq1_9, fq1_9⟩ := upd_tells eq1_9 hq1_9
      clear eq1_9 hq1_9
      have dq1_9 := dq1_8.trans tq1_9
      walk_at "rr"
      have cq1_9 : Same Hq1_9 Hq1_9 := Same.refl _
      have cq1_8 := tq1_9.trans cq1_9
      have cq1_7 := tq1_8.trans cq1_8
      have cq1_6 := tq1_7.trans cq1_7
      have cq1_5 := tq1_6.trans cq1_6
      have cq1_4 := tq1_5.trans cq1_5
      have cq1_3 := tq1_4.trans cq1_4
      have cq1_2 := tq1_3.trans cq1_3
      have cq1_1 := tq1_2.trans cq1_2
      have cq1_0 := tq1_1.trans cq1_1
      have it1 : ∀ v ∈ [V.ref bq1_1, V.ref bq1_2, V.ref bq1_3, V.ref bq1_4, V.ref bq1_5, V.ref bq1_6, V.ref bq1_7, V.ref bq1_8], Va M0 0 250 3 Hq1_9 v := by
        intro v hv
        simp only [List.mem_cons, List.not_mem_nil, or_false] at hv
        rcases hv with rfl | rfl | rfl | rfl | rfl | rfl | rfl | rfl
        · exact ((Vs.tup (Vs.nil (n := 0) (D := 0)) (cq1_1 _ _ fq1_1)).mono (n' := 0) (W' := 0) (D' := 1) (Nat.le_refl _) (by decide) (by decide)).mono (Nat.le_refl _) (by decide) (by decide)
        · exact ((Vs.tup (Vs.cons ((va_str (W := 1) (D := 0) (by decide +kernel) (by decide +kernel)).mono (Nat.le_refl _) (Nat.le_refl _) (by decide)) (Vs.cons ((va_str (W := 1) (D := 0) (by decide +kernel) (by decide +kernel)).mono (Nat.le_refl _) (Nat.le_refl _) (by decide)) (Vs.nil (n := 0) (D := 0)))) (cq1_2 _ _ fq1_2)).mono (n' := 0) (W' := 4) (D' := 1) (Nat.le_refl _) (by decide) (by decide)).mono (Nat.le_refl _) (by decide) (by decide)
        · exact ((Vs.tup (Vs.cons ((va_str (W := 1) (D := 0) (by decide +kernel) (by decide +kernel)).mono (Nat.le_refl _) (Nat.le_refl _) (by decide)) (Vs.cons ((va_str (W := 1) (D := 0) (by decide +kernel) (by decide +kernel)).mono (Nat.le_refl _) (Nat.le_refl _) (by decide)) (Vs.cons ((va_str (W := 1) (D := 0) (by decide +kernel) (by decide +kernel)).mono (Nat.le_refl _) (Nat.le_refl _) (by decide)) (Vs.cons ((va_str (W := 1) (D := 0) (by decide +kernel) (by decide +kernel)).mono (Nat.le_refl _) (Nat.le_refl _) (by decide)) (Vs.nil (n := 0) (D := 0)))))) (cq1_3 _ _ fq1_3)).mono (n' := 0) (W' := 8) (D' := 1) (Nat.le_refl _) (by decide) (by decide)).mono (Nat.le_refl _) (by decide) (by decide)
        · exact ((Vs.tup (Vs.cons ((va_str (W := 1) (D := 0) (by decide +kernel) (by decide +kernel)).mono (Nat.le_refl _) (Nat.le_refl _) (by decide)) (Vs.cons ((va_str (W := 1) (D := 0) (by decide +kernel) (by decide +kernel)).mono (Nat.le_refl _) (Nat.le_refl _) (by decide)) (Vs.cons ((va_str (W := 1) (D := 0) (by decide +kernel) (by decide +kernel)).mono (Nat.le_refl _) (Nat.le_refl _) (by decide)) (Vs.nil (n := 0) (D := 0))))) (cq1_4 _ _ fq1_4)).mono (n' := 0) (W' := 6) (D' := 1) (Nat.le_refl _) (by decide) (by decide)).mono (Nat.le_refl _) (by decide) (by decide)
        · exact ((Vs.lst (Vs.cons ((va_str (W := 1) (D := 0) (by decide +kernel) (by decide +kernel)).mono (Nat.le_refl _) (Nat.le_refl _) (by decide)) (Vs.nil (n := 0) (D := 0))) (cq1_5 _ _ fq1_5) (fun h => h)).mono (n' := 0) (W' := 2) (D' := 1) (Nat.le_refl _) (by decide) (by decide)).mono (Nat.le_refl _) (by decide) (by decide)
        · exact ((Vs.tup (Vs.cons ((va_str (W := 1) (D := 0) (by decide +kernel) (by decide +kernel)).mono (Nat.le_refl _) (Nat.le_refl _) (by decide)) (Vs.cons ((va_int (W := 200) (D := 0) (by decide +kernel) (by decide) (Nat.le_refl 200)).mono (Nat.le_refl _) (Nat.le_refl _) (by decide)) (Vs.nil (n := 0) (D := 0)))) (cq1_6 _ _ fq1_6)).mono (n' := 0) (W' := 203) (D' := 1) (Nat.le_refl _) (by decide) (by decide)).mono (Nat.le_refl _) (by decide) (by decide)
        · exact ((Vs.tup (Vs.cons ((va_str (W := 8) (D := 0) (by decide +kernel) (by decide +kernel)).mono (Nat.le_refl _) (Nat.le_refl _) (by decide)) (Vs.nil (n := 0) (D := 0))) (cq1_7 _ _ fq1_7)).mono (n' := 0) (W' := 9) (D' := 1) (Nat.le_refl _) (by decide) (by decide)).mono (Nat.le_refl _) (by decide) (by decide)
        · exact ((Vs.tup (Vs.cons ((va_str (W := 9) (D := 0) (by decide +kernel) (by decide +kernel)).mono (Nat.le_refl _) (Nat.le_refl _) (by decide)) (Vs.nil (n := 0) (D := 0))) (cq1_8 _ _ fq1_8)).mono (n' := 0) (W' := 10) (D' := 1) (Nat.le_refl _) (by decide) (by decide)).mono (Nat.le_refl _) (by decide) (by decide)
      have fI1 := fq1_9
      have sI1 := sH.trans cq1_0
      have hf1 := cq1_0 _ _ fo2
      have lsI1 : ∀ v ∈ f0, Ls Hq1_9 v := fun v hv => (ls0 v hv).same cq1_0
      generalize hI1 : [V.ref bq1_1, V.ref bq1_2, V.ref bq1_3, V.ref bq1_4, V.ref bq1_5, V.ref bq1_6, V.ref bq1_7, V.ref bq1_8] = its1 at it1 fI1 ⊢
      have lI1 : its1.length = 8 := by rw [← hI1]; rfl
      clear hI1
      let Pv1 : Nat → L2.St → Hp → Prop := fun i σ H' => ∃ (f1 : Addr) (g1 : List V) (o2 : Option V), σ = [some (.ref o), some (.ref f1), o2, none] ∧ Same Hq1_9 H' ∧ H' f1 = some (.lst g1) ∧ g1.length ≤ 9 + 3 * i ∧ ∀ v ∈ g1, Ls H' v
      refine ⟨bq1_9, rfl, ⟨_, SqT.of fI1⟩, for_it (walk_tup (xs := its1)) Pv1 ⟨fo, f0, _, rfl, Same.refl _, hf1, by simpa using lf0, lsI1⟩ (fun i σ H' _ h => ?_) (fun i x σ H8 H9 hi h y => ?_) fun σ H9 h => ?_⟩
      · obtain ⟨_, _, _, _, s1, _⟩ := h
        exact SqT.of (s1 _ _ fI1)
      · obtain ⟨f1, g1, o2, rfl, s1, hf, lf, lsf⟩ := h
        obtain ⟨rfl, y⟩ := y
        have e : its1[i]? = some x := y
        have vS : Va M0 0 250 3 H9 x := (it1 x (List.mem_of_getElem? e)).same s1
        have vO : Va M0 0 60 3 H9 (V.ref o) := vo.same (sI1.trans s1)
        walk_at "rr"
        have dl1_0 : Same H9 H9 := Same.refl _
        refine ⟨k_sz rfl, fun bl1_1 hl1_1 => ?_⟩
        generalize el1_1 : upd H9 bl1_1 _ = Hl1_1
        obtain ⟨tl1_1, fl1_1⟩ := upd_tells el1_1 hl1_1
        clear el1_1 hl1_1
        have dl1_1 := dl1_0.trans tl1_1
        walk_at "rr"
        refine ⟨k_sz rfl, fun bl1_2 hl1_2 => ?_⟩
        generalize el1_2 : upd Hl1_1 bl1_2 _ = Hl1_2
        obtain ⟨tl1_2, fl1_2⟩ := upd_tells el1_2 hl1_2
        clear el1_2 hl1_2
        have dl1_2 := dl1_1.trans tl1_2
        walk_at "rr"
        refine ⟨k_sz rfl, fun bl1_3 hl1_3 => ?_⟩
        generalize el1_3 : upd Hl1_2 bl1_3 _ = Hl1_3
        obtain ⟨tl1_3, fl1_3⟩ := upd_tells el1_3 hl1_3
        clear el1_3 hl1_3
        have dl1_3 := dl1_2.trans tl1_3
        walk_at "rr"
        refine ⟨k_sz rfl, fun bl1_4 hl1_4 => ?_⟩
        generalize el1_4 : upd Hl1_3 bl1_4 _ = Hl1_4
        obtain ⟨tl1_4, fl1_4⟩ := upd_tells el1_4 hl1_4
        clear el1_4 hl1_4
        have dl1_4 := dl1_3.trans tl1_4
        walk_at "rr"
        refine ⟨k_sz rfl, fun bl1_5 hl1_5 => ?_⟩
        generalize el1_5 : upd Hl1_4 bl1_5 _ = Hl1_5
        obtain ⟨tl1_5, fl1_5⟩ := upd_tells el1_5 hl1_5
        clear el1_5 hl1_5
        have dl1_5 := dl1_4.trans tl1_5
        walk_at "rr"
        refine ⟨k_sz rfl, fun bl1_6 hl1_6 => ?_⟩
        generalize el1_6 : upd Hl1_5 bl1_6 _ = Hl1_6
        obtain ⟨tl1_6, fl1_6⟩ := upd_tells el1_6 hl1_6
        clear el1_6 hl1_6
        have dl1_6 := dl1_5.trans tl1_6
        walk_at "rr"
        refine ⟨k_sz rfl, fun bl1_7 hl1_7 => ?_⟩
        generalize el1_7 : upd Hl1_6 bl1_7 _ = Hl1_7
        obtain ⟨tl1_7, fl1_7⟩ := upd_tells el1_7 hl1_7
        clear el1_7 hl1_7
        have dl1_7 := dl1_6.trans tl1_7
        walk_at "rr"
        refine ⟨k_sz rfl, fun bl1_8 hl1_8 => ?_⟩
        generalize el1_8 : upd Hl1_7 bl1_8 _ = Hl1_8
        obtain ⟨tl1_8, fl1_8⟩ := upd_tells el1_8 hl1_8
        clear el1_8 hl1_8
        have dl1_8 := dl1_7.trans tl1_8
        walk_at "rr"
        refine ⟨k_sz rfl, fun bl1_9 hl1_9 => ?_⟩
        generalize el1_9 : upd Hl1_8 bl1_9 _ = Hl1_9
        obtain ⟨tl1_9, fl1_9⟩ := upd_tells el1_9 hl1_9
        clear el1_9 hl1_9
        have dl1_9 := dl1_8.trans tl1_9
        walk_at "rr"
        refine ⟨k_sz rfl, fun bl1_10 hl1_10 => ?_⟩
        generalize el1_10 : upd Hl1_9 bl1_10 _ = Hl1_10
        obtain ⟨tl1_10, fl1_10⟩ := upd_tells el1_10 hl1_10
        clear el1_10 hl1_10
        have dl1_10 := dl1_9.trans tl1_10
        walk_at "rr"
        refine ⟨k_sz rfl, fun bl1_11 hl1_11 => ?_⟩
        generalize el1_11 : upd Hl1_10 bl1_11 _ = Hl1_11
        obtain ⟨tl1_11, fl1_11⟩ := upd_tells el1_11 hl1_11
        clear el1_11 hl1_11
        have dl1_11 := dl1_10.trans tl1_11
        walk_at "rr"
        have cl1_11 : Same Hl1_11 Hl1_11 := Same.refl _
        have cl1_10 := tl1_11.trans cl1_11
        have cl1_9 := tl1_10.trans cl1_10
        have cl1_8 := tl1_9.trans cl1_9
        have cl1_7 := tl1_8.trans cl1_8
        have cl1_6 := tl1_7.trans cl1_7
        have cl1_5 := tl1_6.trans cl1_6
        have cl1_4 := tl1_5.trans cl1_5
        have cl1_3 := tl1_4.trans cl1_4
        have cl1_2 := tl1_3.trans cl1_3
        have cl1_1 := tl1_2.trans cl1_2
        have cl1_0 := tl1_1.trans cl1_1
        have vs2 : ∀ v ∈ [V.ref bl1_4, V.ref bl1_6, V.ref bl1_10], Ls Hl1_11 v := by
          intro v hv
          simp only [List.mem_cons, List.not_mem_nil, or_false] at hv
          rcases hv with rfl | rfl | rfl
          · exact ⟨bl1_4, _, rfl, cl1_4 _ _ fl1_4, (by show 1 ≤ 5; decide), (Vs.cons (((Vs.tup (Vs.cons ((va_str (W := 1) (D := 0) (by decide +kernel) (by decide +kernel)).mono (Nat.le_refl _) (Nat.le_refl _) (by decide)) (Vs.cons ((vS.same cl1_0).mono (Nat.le_refl _) (Nat.le_refl _) (by decide)) (Vs.cons (((Vs.tup (Vs.nil (n := 0) (D := 0)) (cl1_1 _ _ fl1_1)).mono (n' := 0) (W' := 0) (D' := 1) (Nat.le_refl _) (by decide) (by decide)).mono (Nat.le_refl _) (Nat.le_refl _) (by decide)) (Vs.cons (((Vs.tup (Vs.nil (n := 0) (D := 0)) (cl1_2 _ _ fl1_2)).mono (n' := 0) (W' := 0) (D' := 1) (Nat.le_refl _) (by decide) (by decide)).mono (Nat.le_refl _) (Nat.le_refl _) (by decide)) (Vs.nil (n := 0) (D := 3)))))) (cl1_3 _ _ fl1_3)).mono (n' := 0) (W' := 255) (D' := 4) (Nat.le_refl _) (by decide) (by decide)).mono (Nat.le_refl _) (Nat.le_refl _) (by decide)) (Vs.nil (n := 0) (D := 4))).mono (Nat.le_refl _) (by decide) (by decide)⟩
          · exact ⟨bl1_6, _, rfl, cl1_6 _ _ fl1_6, (by show 1 ≤ 5; decide), (Vs.cons (((Vs.tup (Vs.cons ((vO.same cl1_0).mono (Nat.le_refl _) (Nat.le_refl _) (by decide)) (Vs.nil (n := 0) (D := 3))) (cl1_5 _ _ fl1_5)).mono (n' := 0) (W' := 61) (D' := 4) (Nat.le_refl _) (by decide) (by decide)).mono (Nat.le_refl _) (Nat.le_refl _) (by decide)) (Vs.nil (n := 0) (D := 4))).mono (Nat.le_refl _) (by decide) (by decide)⟩
          · exact ⟨bl1_10, _, rfl, cl1_10 _ _ fl1_10, (by show 1 ≤ 5; decide), (Vs.cons (((Vs.tup (Vs.cons ((va_str (W := 1) (D := 0) (by decide +kernel) (by decide +kernel)).mono (Nat.le_refl _) (Nat.le_refl _) (by decide)) (Vs.cons ((va_str (W := 1) (D := 0) (by decide +kernel) (by decide +kernel)).mono (Nat.le_refl _) (Nat.le_refl _) (by decide)) (Vs.cons (((Vs.tup (Vs.nil (n := 0) (D := 0)) (cl1_7 _ _ fl1_7)).mono (n' := 0) (W' := 0) (D' := 1) (Nat.le_refl _) (by decide) (by decide)).mono (Nat.le_refl _) (Nat.le_refl _) (by decide)) (Vs.cons (((Vs.tup (Vs.nil (n := 0) (D := 0)) (cl1_8 _ _ fl1_8)).mono (n' := 0) (W' := 0) (D' := 1) (Nat.le_refl _) (by decide) (by decide)).mono (Nat.le_refl _) (Nat.le_refl _) (by decide)) (Vs.nil (n := 0) (D := 1)))))) (cl1_9 _ _ fl1_9)).mono (n' := 0) (W' := 6) (D' := 2) (Nat.le_refl _) (by decide) (by decide)).mono (Nat.le_refl _) (Nat.le_refl _) (by decide)) (Vs.nil (n := 0) (D := 2))).mono (Nat.le_refl _) (by decide) (by decide)⟩
        refine catL_of (cl1_0 _ _ hf) fl1_11 (by show _ + 3 ≤ 100000; have := (List.getElem?_eq_some_iff.mp e).1; omega) fun pz Hz tz fz _ => ?_
        refine ⟨pz, _, _, rfl, (s1.trans cl1_0).trans tz, fz, by rw [List.length_append]; show _ + 3 ≤ _; omega, fun v hv => ?_⟩
        rcases List.mem_append.mp hv with hv | hv
        · exact (lsf v hv).same (cl1_0.trans tz)
        · exact (vs2 v hv).same tz
      · obtain ⟨fo, f0, o2, rfl, s1, fo2, lf0, ls0⟩ := h
        rw [lI1] at lf0
        have lf0 : f0.length ≤ 33 := lf0
        have sH := sI1.trans s1
        walk_at "rr"
        have dq2_0 : Same H9 H9 := Same.refl _
        refine ⟨k_sz rfl, fun bq2_1 hq2_1 => ?_⟩
        generalize eq2_1 : upd H9 bq2_1 _ = Hq2_1
        obtain ⟨tq2_1, fq2_1⟩ := upd_tells eq2_1 hq2_1
        clear eq2_1 hq2_1
        have dq2_1 := dq2_0.trans tq2_1
        walk_at "rr"
        refine ⟨k_sz rfl, fun bq2_2 hq2_2 => ?_⟩
        generalize eq2_2 : upd Hq2_1 bq2_2 _ = Hq2_2
        obtain ⟨tq2_2, fq2_2⟩ := upd_tells eq2_2 hq2_2
        clear eq2_2 hq2_2
        have dq2_2 := dq2_1.trans tq2_2
        walk_at "rr"
        refine ⟨k_sz rfl, fun bq2_3 hq2_3 => ?_⟩
        generalize eq2_3 : upd Hq2_2 bq2_3 _ = Hq2_3
        obtain ⟨tq2_3, fq2_3⟩ := upd_tells eq2_3 hq2_3
        clear eq2_3 hq2_3
        have dq2_3 := dq2_2.trans tq2_3
        walk_at "rr"
        refine ⟨k_sz rfl, fun bq2_4 hq2_4 => ?_⟩
        generalize eq2_4 : upd Hq2_3 bq2_4 _ = Hq2_4
        obtain ⟨tq2_4, fq2_4⟩ := upd_tells eq2_4 hq2_4
        clear eq2_4 hq2_4
        have dq2_4 := dq2_3.trans tq2_4
        walk_at "rr"
        refine ⟨k_sz rfl, fun bq2_5 hq2_5 => ?_⟩
        generalize eq2_5 : upd Hq2_4 bq2_5 _ = Hq2_5
        obtain ⟨tq2_5, fq2_5⟩ := upd_tells eq2_5 hq2_5
        clear eq2_5 hq2_5
        have dq2_5 := dq2_4.trans tq2_5
        walk_at "rr"
        refine ⟨k_sz rfl, fun bq2_6 hq2_6 => ?_⟩
        generalize eq2_6 : upd Hq2_5 bq2_6 _ = Hq2_6
        obtain ⟨tq2_6, fq2_6⟩ := upd_tells eq2_6 hq2_6
        clear eq2_6 hq2_6
        have dq2_6 := dq2_5.trans tq2_6
        walk_at "rr"
        refine ⟨k_sz rfl, fun bq2_7 hq2_7 => ?_⟩
        generalize eq2_7 : upd Hq2_6 bq2_7 _ = Hq2_7
        obtain ⟨tq2_7, fq2_7⟩ := upd_tells eq2_7 hq2_7
        clear eq2_7 hq2_7
        have dq2_7 := dq2_6.trans tq2_7
        walk_at "rr"
        refine ⟨k_sz rfl, fun bq2_8 hq2_8 => ?_⟩
        generalize eq2_8 : upd Hq2_7 bq2_8 _ = Hq2_8
        obtain ⟨tq2_8, fq2_8⟩ := upd_tells eq2_8 hq2_8
        clear eq2_8 hq2_8
        have dq2_8 := dq2_7.trans tq2_8
        walk_at "rr"
        refine ⟨k_sz rfl, fun bq2_9 hq2_9 => ?_⟩
        generalize eq2_9 : upd Hq2_8 bq2_9 _ = Hq2_9
        obtain ⟨tq2_9, fq2_9⟩ := upd_tells eq2_9 hq2_9
        clear eq2_9 hq2_9
        have dq2_9 := dq2_8.trans tq2_9
        walk_at "rr"
        refine ⟨k_sz rfl, fun bq2_10 hq2_10 => ?_⟩
        generalize eq2_10 : upd Hq2_9 bq2_10 _ = Hq2_10
        obtain ⟨tq2_10, fq2_10⟩ := upd_tells eq2_10 hq2_10
        clear eq2_10 hq2_10
        have dq2_10 := dq2_9.trans tq2_10
        walk_at "rr"
        have cq2_10 : Same Hq2_10 Hq2_10 := Same.refl _
        have cq2_9 := tq2_10.trans cq2_10
        have cq2_8 := tq2_9.trans cq2_9
        have cq2_7 := tq2_8.trans cq2_8
        have cq2_6 := tq2_7.trans cq2_7
        have cq2_5 := tq2_6.trans cq2_6
        have cq2_4 := tq2_5.trans cq2_5
        have cq2_3 := tq2_4.trans cq2_4
        have cq2_2 := tq2_3.trans cq2_3
        have cq2_1 := tq2_2.trans cq2_2
        have cq2_0 := tq2_1.trans cq2_1
        have it2 : ∀ v ∈ [V.ref bq2_1, V.ref bq2_2, V.ref bq2_3, V.ref bq2_4, V.ref bq2_5, V.non, V.str (Str.ofString "a"), V.ref bq2_7, V.ref bq2_8, V.ref bq2_9], Va M0 0 250 3 Hq2_10 v := by
          intro v hv
          simp only [List.mem_cons, List.not_mem_nil, or_false] at hv
          rcases hv with rfl | rfl | rfl | rfl | rfl | rfl | rfl | rfl | rfl | rfl
          · exact ((Vs.tup (Vs.cons ((va_str (W := 1) (D := 0) (by decide +kernel) (by decide +kernel)).mono (Nat.le_refl _) (Nat.le_refl _) (by decide)) (Vs.cons ((va_str (W := 1) (D := 0) (by decide +kernel) (by decide +kernel)).mono (Nat.le_refl _) (Nat.le_refl _) (by decide)) (Vs.nil (n := 0) (D := 0)))) (cq2_1 _ _ fq2_1)).mono (n' := 0) (W' := 4) (D' := 1) (Nat.le_refl _) (by decide) (by decide)).mono (Nat.le_refl _) (by decide) (by decide)
          · exact ((Vs.tup (Vs.cons ((va_str (W := 1) (D := 0) (by decide +kernel) (by decide +kernel)).mono (Nat.le_refl _) (Nat.le_refl _) (by decide)) (Vs.cons ((va_str (W := 1) (D := 0) (by decide +kernel) (by decide +kernel)).mono (Nat.le_refl _) (Nat.le_refl _) (by decide)) (Vs.nil (n := 0) (D := 0)))) (cq2_2 _ _ fq2_2)).mono (n' := 0) (W' := 4) (D' := 1) (Nat.le_refl _) (by decide) (by decide)).mono (Nat.le_refl _) (by decide) (by decide)
          · exact ((Vs.tup (Vs.cons ((va_str (W := 1) (D := 0) (by decide +kernel) (by decide +kernel)).mono (Nat.le_refl _) (Nat.le_refl _) (by decide)) (Vs.nil (n := 0) (D := 0))) (cq2_3 _ _ fq2_3)).mono (n' := 0) (W' := 2) (D' := 1) (Nat.le_refl _) (by decide) (by decide)).mono (Nat.le_refl _) (by decide) (by decide)
          · exact ((Vs.tup (Vs.cons ((va_str (W := 1) (D := 0) (by decide +kernel) (by decide +kernel)).mono (Nat.le_refl _) (Nat.le_refl _) (by decide)) (Vs.cons ((va_str (W := 1) (D := 0) (by decide +kernel) (by decide +kernel)).mono (Nat.le_refl _) (Nat.le_refl _) (by decide)) (Vs.cons ((va_str (W := 1) (D := 0) (by decide +kernel) (by decide +kernel)).mono (Nat.le_refl _) (Nat.le_refl _) (by decide)) (Vs.nil (n := 0) (D := 0))))) (cq2_4 _ _ fq2_4)).mono (n' := 0) (W' := 6) (D' := 1) (Nat.le_refl _) (by decide) (by decide)).mono (Nat.le_refl _) (by decide) (by decide)
          · exact ((Vs.lst (Vs.cons ((va_str (W := 1) (D := 0) (by decide +kernel) (by decide +kernel)).mono (Nat.le_refl _) (Nat.le_refl _) (by decide)) (Vs.nil (n := 0) (D := 0))) (cq2_5 _ _ fq2_5) (fun h => h)).mono (n' := 0) (W' := 2) (D' := 1) (Nat.le_refl _) (by decide) (by decide)).mono (Nat.le_refl _) (by decide) (by decide)
          · exact (va_non (W := 0) (D := 0)).mono (Nat.le_refl _) (by decide) (by decide)
          · exact (va_str (W := 1) (D := 0) (by decide +kernel) (by decide +kernel)).mono (Nat.le_refl _) (by decide) (by decide)
          · exact ((Vs.tup (Vs.cons (((Vs.tup (Vs.nil (n := 0) (D := 0)) (cq2_6 _ _ fq2_6)).mono (n' := 0) (W' := 0) (D' := 1) (Nat.le_refl _) (by decide) (by decide)).mono (Nat.le_refl _) (Nat.le_refl _) (by decide)) (Vs.nil (n := 0) (D := 1))) (cq2_7 _ _ fq2_7)).mono (n' := 0) (W' := 1) (D' := 2) (Nat.le_refl _) (by decide) (by decide)).mono (Nat.le_refl _) (by decide) (by decide)
          · exact ((Vs.tup (Vs.cons ((va_str (W := 1) (D := 0) (by decide +kernel) (by decide +kernel)).mono (Nat.le_refl _) (Nat.le_refl _) (by decide)) (Vs.cons ((va_str (W := 1) (D := 0) (by decide +kernel) (by decide +kernel)).mono (Nat.le_refl _) (Nat.le_refl _) (by decide)) (Vs.nil (n := 0) (D := 0)))) (cq2_8 _ _ fq2_8)).mono (n' := 0) (W' := 4) (D' := 1) (Nat.le_refl _) (by decide) (by decide)).mono (Nat.le_refl _) (by decide) (by decide)
          · exact ((Vs.tup (Vs.cons ((va_str (W := 1) (D := 0) (by decide +kernel) (by decide +kernel)).mono (Nat.le_refl _) (Nat.le_refl _) (by decide)) (Vs.nil (n := 0) (D := 0))) (cq2_9 _ _ fq2_9)).mono (n' := 0) (W' := 2) (D' := 1) (Nat.le_refl _) (by decide) (by decide)).mono (Nat.le_refl _) (by decide) (by decide)
        have fI2 := fq2_10
        have sI2 := sH.trans cq2_0
        have hf2 := cq2_0 _ _ fo2
        have lsI2 : ∀ v ∈ f0, Ls Hq2_10 v := fun v hv => (ls0 v hv).same cq2_0
        generalize hI2 : [V.ref bq2_1, V.ref bq2_2, V.ref bq2_3, V.ref bq2_4, V.ref bq2_5, V.non, V.str (Str.ofString "a"), V.ref bq2_7, V.ref bq2_8, V.ref bq2_9] = its2 at it2 fI2 ⊢
        have lI2 : its2.length = 10 := by rw [← hI2]; rfl
        clear hI2
        let Pv2 : Nat → L2.St → Hp → Prop := fun i σ H' => ∃ (f1 : Addr) (g1 : List V) (o2 : Option V), σ = [some (.ref o), some (.ref f1), o2, none] ∧ Same Hq2_10 H' ∧ H' f1 = some (.lst g1) ∧ g1.length ≤ 33 + 2 * i ∧ ∀ v ∈ g1, Ls H' v
        refine ⟨bq2_10, rfl, ⟨_, SqT.of fI2⟩, for_it (walk_tup (xs := its2)) Pv2 ⟨fo, f0, _, rfl, Same.refl _, hf2, by simpa using lf0, lsI2⟩ (fun i σ H' _ h => ?_) (fun i x σ H8 H9 hi h y => ?_) fun σ H9 h => ?_⟩
        · obtain ⟨_, _, _, _, s1, _⟩ := h
          exact SqT.of (s1 _ _ fI2)
        · obtain ⟨f1, g1, o2, rfl, s1, hf, lf, lsf⟩ := h
          obtain ⟨rfl, y⟩ := y
          have e : its2[i]? = some x := y
          have vS : Va M0 0 250 3 H9 x := (it2 x (List.mem_of_getElem? e)).same s1
          have vO : Va M0 0 60 3 H9 (V.ref o) := vo.same (sI2.trans s1)
          walk_at "rr"
          have dl2_0 : Same H9 H9 := Same.refl _
          refine ⟨k_sz rfl, fun bl2_1 hl2_1 => ?_⟩
          generalize el2_1 : upd H9 bl2_1 _ = Hl2_1
          obtain ⟨tl2_1, fl2_1⟩ := upd_tells el2_1 hl2_1
          clear el2_1 hl2_1
          have dl2_1 := dl2_0.trans tl2_1
          walk_at "rr"
          refine ⟨k_sz rfl, fun bl2_2 hl2_2 => ?_⟩
          generalize el2_2 : upd Hl2_1 bl2_2 _ = Hl2_2
          obtain ⟨tl2_2, fl2_2⟩ := upd_tells el2_2 hl2_2
          clear el2_2 hl2_2
          have dl2_2 := dl2_1.trans tl2_2
          walk_at "rr"
          refine ⟨k_sz rfl, fun bl2_3 hl2_3 => ?_⟩
          generalize el2_3 : upd Hl2_2 bl2_3 _ = Hl2_3
          obtain ⟨tl2_3, fl2_3⟩ := upd_tells el2_3 hl2_3
          clear el2_3 hl2_3
          have dl2_3 := dl2_2.trans tl2_3
          walk_at "rr"
          refine ⟨k_sz rfl, fun bl2_4 hl2_4 => ?_⟩
          generalize el2_4 : upd Hl2_3 bl2_4 _ = Hl2_4
          obtain ⟨tl2_4, fl2_4⟩ := upd_tells el2_4 hl2_4
          clear el2_4 hl2_4
          have dl2_4 := dl2_3.trans tl2_4
          walk_at "rr"
          refine ⟨k_sz rfl, fun bl2_5 hl2_5 => ?_⟩
          generalize el2_5 : upd Hl2_4 bl2_5 _ = Hl2_5
          obtain ⟨tl2_5, fl2_5⟩ := upd_tells el2_5 hl2_5
          clear el2_5 hl2_5
          have dl2_5 := dl2_4.trans tl2_5
          walk_at "rr"
          refine ⟨k_sz rfl, fun bl2_6 hl2_6 => ?_⟩
          generalize el2_6 : upd Hl2_5 bl2_6 _ = Hl2_6
          obtain ⟨tl2_6, fl2_6⟩ := upd_tells el2_6 hl2_6
          clear el2_6 hl2_6
          have dl2_6 := dl2_5.trans tl2_6
          walk_at "rr"
          refine ⟨k_sz rfl, fun bl2_7 hl2_7 => ?_⟩
          generalize el2_7 : upd Hl2_6 bl2_7 _ = Hl2_7
          obtain ⟨tl2_7, fl2_7⟩ := upd_tells el2_7 hl2_7
          clear el2_7 hl2_7
          have dl2_7 := dl2_6.trans tl2_7
          walk_at "rr"
          refine ⟨k_sz rfl, fun bl2_8 hl2_8 => ?_⟩
          generalize el2_8 : upd Hl2_7 bl2_8 _ = Hl2_8
          obtain ⟨tl2_8, fl2_8⟩ := upd_tells el2_8 hl2_8
          clear el2_8 hl2_8
          have dl2_8 := dl2_7.trans tl2_8
          walk_at "rr"
          refine ⟨k_sz rfl, fun bl2_9 hl2_9 => ?_⟩
          generalize el2_9 : upd Hl2_8 bl2_9 _ = Hl2_9
          obtain ⟨tl2_9, fl2_9⟩ := upd_tells el2_9 hl2_9
          clear el2_9 hl2_9
          have dl2_9 := dl2_8.trans tl2_9
          walk_at "rr"
          have cl2_9 : Same Hl2_9 Hl2_9 := Same.refl _
          have cl2_8 := tl2_9.trans cl2_9
          have cl2_7 := tl2_8.trans cl2_8
          have cl2_6 := tl2_7.trans cl2_7
          have cl2_5 := tl2_6.trans cl2_6
          have cl2_4 := tl2_5.trans cl2_5
          have cl2_3 := tl2_4.trans cl2_4
          have cl2_2 := tl2_3.trans cl2_3
          have cl2_1 := tl2_2.trans cl2_2
          have cl2_0 := tl2_1.trans cl2_1
          have vs2 : ∀ v ∈ [V.ref bl2_4, V.ref bl2_8], Ls Hl2_9 v := by
            intro v hv
            simp only [List.mem_cons, List.not_mem_nil, or_false] at hv
            rcases hv with rfl | rfl
            · exact ⟨bl2_4, _, rfl, cl2_4 _ _ fl2_4, (by show 1 ≤ 5; decide), (Vs.cons (((Vs.tup (Vs.cons ((va_str (W := 1) (D := 0) (by decide +kernel) (by decide +kernel)).mono (Nat.le_refl _) (Nat.le_refl _) (by decide)) (Vs.cons (((Vs.tup (Vs.cons ((va_str (W := 1) (D := 0) (by decide +kernel) (by decide +kernel)).mono (Nat.le_refl _) (Nat.le_refl _) (by decide)) (Vs.cons ((va_str (W := 1) (D := 0) (by decide +kernel) (by decide +kernel)).mono (Nat.le_refl _) (Nat.le_refl _) (by decide)) (Vs.cons ((va_str (W := 1) (D := 0) (by decide +kernel) (by decide +kernel)).mono (Nat.le_refl _) (Nat.le_refl _) (by decide)) (Vs.nil (n := 0) (D := 0))))) (cl2_1 _ _ fl2_1)).mono (n' := 0) (W' := 6) (D' := 1) (Nat.le_refl _) (by decide) (by decide)).mono (Nat.le_refl _) (Nat.le_refl _) (by decide)) (Vs.cons ((vS.same cl2_0).mono (Nat.le_refl _) (Nat.le_refl _) (by decide)) (Vs.cons (((Vs.tup (Vs.nil (n := 0) (D := 0)) (cl2_2 _ _ fl2_2)).mono (n' := 0) (W' := 0) (D' := 1) (Nat.le_refl _) (by decide) (by decide)).mono (Nat.le_refl _) (Nat.le_refl _) (by decide)) (Vs.nil (n := 0) (D := 3)))))) (cl2_3 _ _ fl2_3)).mono (n' := 0) (W' := 261) (D' := 4) (Nat.le_refl _) (by decide) (by decide)).mono (Nat.le_refl _) (Nat.le_refl _) (by decide)) (Vs.nil (n := 0) (D := 4))).mono (Nat.le_refl _) (by decide) (by decide)⟩
            · exact ⟨bl2_8, _, rfl, cl2_8 _ _ fl2_8, (by show 1 ≤ 5; decide), (Vs.cons (((Vs.tup (Vs.cons ((va_str (W := 1) (D := 0) (by decide +kernel) (by decide +kernel)).mono (Nat.le_refl _) (Nat.le_refl _) (by decide)) (Vs.cons (((Vs.tup (Vs.cons ((va_str (W := 1) (D := 0) (by decide +kernel) (by decide +kernel)).mono (Nat.le_refl _) (Nat.le_refl _) (by decide)) (Vs.cons ((va_str (W := 1) (D := 0) (by decide +kernel) (by decide +kernel)).mono (Nat.le_refl _) (Nat.le_refl _) (by decide)) (Vs.cons ((va_str (W := 1) (D := 0) (by decide +kernel) (by decide +kernel)).mono (Nat.le_refl _) (Nat.le_refl _) (by decide)) (Vs.nil (n := 0) (D := 0))))) (cl2_5 _ _ fl2_5)).mono (n' := 0) (W' := 6) (D' := 1) (Nat.le_refl _) (by decide) (by decide)).mono (Nat.le_refl _) (Nat.le_refl _) (by decide)) (Vs.cons (((Vs.tup (Vs.nil (n := 0) (D := 0)) (cl2_6 _ _ fl2_6)).mono (n' := 0) (W' := 0) (D' := 1) (Nat.le_refl _) (by decide) (by decide)).mono (Nat.le_refl _) (Nat.le_refl _) (by decide)) (Vs.cons ((vS.same cl2_0).mono (Nat.le_refl _) (Nat.le_refl _) (by decide)) (Vs.nil (n := 0) (D := 3)))))) (cl2_7 _ _ fl2_7)).mono (n' := 0) (W' := 261) (D' := 4) (Nat.le_refl _) (by decide) (by decide)).mono (Nat.le_refl _) (Nat.le_refl _) (by decide)) (Vs.nil (n := 0) (D := 4))).mono (Nat.le_refl _) (by decide) (by decide)⟩
          refine catL_of (cl2_0 _ _ hf) fl2_9 (by show _ + 2 ≤ 100000; have := (List.getElem?_eq_some_iff.mp e).1; omega) fun pz Hz tz fz _ => ?_
          refine ⟨pz, _, _, rfl, (s1.trans cl2_0).trans tz, fz, by rw [List.length_append]; show _ + 2 ≤ _; omega, fun v hv => ?_⟩
          rcases List.mem_append.mp hv with hv | hv
          · exact (lsf v hv).same (cl2_0.trans tz)
          · exact (vs2 v hv).same tz
        · obtain ⟨fo, f0, o2, rfl, s1, fo2, lf0, ls0⟩ := h
          rw [lI2] at lf0
          have lf0 : f0.length ≤ 53 := lf0
          have sH := sI2.trans s1
          walk_at "rr"
          have dq3_0 : Same H9 H9 := Same.refl _
          refine ⟨k_sz rfl, fun bq3_1 hq3_1 => ?_⟩
          generalize eq3_1 : upd H9 bq3_1 _ = Hq3_1
          obtain ⟨tq3_1, fq3_1⟩ := upd_tells eq3_1 hq3_1
          clear eq3_1 hq3_1
          have dq3_1 := dq3_0.trans tq3_1
          walk_at "rr"
          refine ⟨k_sz rfl, fun bq3_2 hq3_2 => ?_⟩
          generalize eq3_2 : upd Hq3_1 bq3_2 _ = Hq3_2
          obtain ⟨tq3_2, fq3_2⟩ := upd_tells eq3_2 hq3_2
          clear eq3_2 hq3_2
          have dq3_2 := dq3_1.trans tq3_2
          walk_at "rr"
          have cq3_2 : Same Hq3_2 Hq3_2 := Same.refl _
          have cq3_1 := tq3_2.trans cq3_2
          have cq3_0 := tq3_1.trans cq3_1
          have it3 : ∀ v ∈ [V.str (Str.ofString ""), V.str (Str.ofString "abcdefgh"), V.str (Str.ofString "abcdefghi"), V.str (Str.ofString "T"), V.str (Str.ofString "t1"), V.str (Str.ofString "t t"), V.non, V.int 5, V.ref bq3_1, V.str (Str.ofString "tt")], Va M0 0 250 3 Hq3_2 v := by
            intro v hv
            simp only [List.mem_cons, List.not_mem_nil, or_false] at hv
            rcases hv with rfl | rfl | rfl | rfl | rfl | rfl | rfl | rfl | rfl | rfl
            · exact (va_str (W := 0) (D := 0) (by decide +kernel) (by decide +kernel)).mono (Nat.le_refl _) (by decide) (by decide)
            · exact (va_str (W := 8) (D := 0) (by decide +kernel) (by decide +kernel)).mono (Nat.le_refl _) (by decide) (by decide)
            · exact (va_str (W := 9) (D := 0) (by decide +kernel) (by decide +kernel)).mono (Nat.le_refl _) (by decide) (by decide)
            · exact (va_str (W := 1) (D := 0) (by decide +kernel) (by decide +kernel)).mono (Nat.le_refl _) (by decide) (by decide)
            · exact (va_str (W := 2) (D := 0) (by decide +kernel) (by decide +kernel)).mono (Nat.le_refl _) (by decide) (by decide)
            · exact (va_str (W := 3) (D := 0) (by decide +kernel) (by decide +kernel)).mono (Nat.le_refl _) (by decide) (by decide)
            · exact (va_non (W := 0) (D := 0)).mono (Nat.le_refl _) (by decide) (by decide)
            · exact (va_int (W := 200) (D := 0) (by decide +kernel) (by decide) (Nat.le_refl 200)).mono (Nat.le_refl _) (by decide) (by decide)
            · exact ((Vs.tup (Vs.cons ((va_str (W := 1) (D := 0) (by decide +kernel) (by decide +kernel)).mono (Nat.le_refl _) (Nat.le_refl _) (by decide)) (Vs.nil (n := 0) (D := 0))) (cq3_1 _ _ fq3_1)).mono (n' := 0) (W' := 2) (D' := 1) (Nat.le_refl _) (by decide) (by decide)).mono (Nat.le_refl _) (by decide) (by decide)
            · exact (va_str (W := 2) (D := 0) (by decide +kernel) (by decide +kernel)).mono (Nat.le_refl _) (by decide) (by decide)
          have fI3 := fq3_2
          have sI3 := sH.trans cq3_0
          have hf3 := cq3_0 _ _ fo2
          have lsI3 : ∀ v ∈ f0, Ls Hq3_2 v := fun v hv => (ls0 v hv).same cq3_0
          generalize hI3 : [V.str (Str.ofString ""), V.str (Str.ofString "abcdefgh"), V.str (Str.ofString "abcdefghi"), V.str (Str.ofString "T"), V.str (Str.ofString "t1"), V.str (Str.ofString "t t"), V.non, V.int 5, V.ref bq3_1, V.str (Str.ofString "tt")] = its3 at it3 fI3 ⊢
          have lI3 : its3.length = 10 := by rw [← hI3]; rfl
          clear hI3
          let Pv3 : Nat → L2.St → Hp → Prop := fun i σ H' => ∃ (f1 : Addr) (g1 : List V) (o2 : Option V), σ = [some (.ref o), some (.ref f1), o2, none] ∧ Same Hq3_2 H' ∧ H' f1 = some (.lst g1) ∧ g1.length ≤ 53 + 2 * i ∧ ∀ v ∈ g1, Ls H' v
          refine ⟨bq3_2, rfl, ⟨_, SqT.of fI3⟩, for_it (walk_tup (xs := its3)) Pv3 ⟨fo, f0, _, rfl, Same.refl _, hf3, by simpa using lf0, lsI3⟩ (fun i σ H' _ h => ?_) (fun i x σ H8 H9 hi h y => ?_) fun σ H9 h => ?_⟩
          · obtain ⟨_, _, _, _, s1, _⟩ := h
            exact SqT.of (s1 _ _ fI3)
          · obtain ⟨f1, g1, o2, rfl, s1, hf, lf, lsf⟩ := h
            obtain ⟨rfl, y⟩ := y
            have e : its3[i]? = some x := y
            have vS : Va M0 0 250 3 H9 x := (it3 x (List.mem_of_getElem? e)).same s1
            have vO : Va M0 0 60 3 H9 (V.ref o) := vo.same (sI3.trans s1)
            walk_at "rr"
            have dl3_0 : Same H9 H9 := Same.refl _
            refine ⟨k_sz rfl, fun bl3_1 hl3_1 => ?_⟩
            generalize el3_1 : upd H9 bl3_1 _ = Hl3_1
            obtain ⟨tl3_1, fl3_1⟩ := upd_tells el3_1 hl3_1
            clear el3_1 hl3_1
            have dl3_1 := dl3_0.trans tl3_1
            walk_at "rr"
            refine ⟨k_sz rfl, fun bl3_2 hl3_2 => ?_⟩
            generalize el3_2 : upd Hl3_1 bl3_2 _ = Hl3_2
            obtain ⟨tl3_2, fl3_2⟩ := upd_tells el3_2 hl3_2
            clear el3_2 hl3_2
            have dl3_2 := dl3_1.trans tl3_2
            walk_at "rr"
            refine ⟨k_sz rfl, fun bl3_3 hl3_3 => ?_⟩
            generalize el3_3 : upd Hl3_2 bl3_3 _ = Hl3_3
            obtain ⟨tl3_3, fl3_3⟩ := upd_tells el3_3 hl3_3
            clear el3_3 hl3_3
            have dl3_3 := dl3_2.trans tl3_3
            walk_at "rr"
            refine ⟨k_sz rfl, fun bl3_4 hl3_4 => ?_⟩
            generalize el3_4 : upd Hl3_3 bl3_4 _ = Hl3_4
            obtain ⟨tl3_4, fl3_4⟩ := upd_tells el3_4 hl3_4
            clear el3_4 hl3_4
            have dl3_4 := dl3_3.trans tl3_4
            walk_at "rr"
            refine ⟨k_sz rfl, fun bl3_5 hl3_5 => ?_⟩
            generalize el3_5 : upd Hl3_4 bl3_5 _ = Hl3_5
            obtain ⟨tl3_5, fl3_5⟩ := upd_tells el3_5 hl3_5
            clear el3_5 hl3_5
            have dl3_5 := dl3_4.trans tl3_5
            walk_at "rr"
            refine ⟨k_sz rfl, fun bl3_6 hl3_6 => ?_⟩
            generalize el3_6 : upd Hl3_5 bl3_6 _ = Hl3_6
            obtain ⟨tl3_6, fl3_6⟩ := upd_tells el3_6 hl3_6
            clear el3_6 hl3_6
            have dl3_6 := dl3_5.trans tl3_6
            walk_at "rr"
            refine ⟨k_sz rfl, fun bl3_7 hl3_7 => ?_⟩
            generalize el3_7 : upd Hl3_6 bl3_7 _ = Hl3_7
            obtain ⟨tl3_7, fl3_7⟩ := upd_tells el3_7 hl3_7
            clear el3_7 hl3_7
            have dl3_7 := dl3_6.trans tl3_7
            walk_at "rr"
            refine ⟨k_sz rfl, fun bl3_8 hl3_8 => ?_⟩
            generalize el3_8 : upd Hl3_7 bl3_8 _ = Hl3_8
            obtain ⟨tl3_8, fl3_8⟩ := upd_tells el3_8 hl3_8
            clear el3_8 hl3_8
            have dl3_8 := dl3_7.trans tl3_8
            walk_at "rr"
            refine ⟨k_sz rfl, fun bl3_9 hl3_9 => ?_⟩
            generalize el3_9 : upd Hl3_8 bl3_9 _ = Hl3_9
            obtain ⟨tl3_9, fl3_9⟩ := upd_tells el3_9 hl3_9
            clear el3_9 hl3_9
            have dl3_9 := dl3_8.trans tl3_9
            walk_at "rr"
            refine ⟨k_sz rfl, fun bl3_10 hl3_10 => ?_⟩
            generalize el3_10 : upd Hl3_9 bl3_10 _ = Hl3_10
            obtain ⟨tl3_10, fl3_10⟩ := upd_tells el3_10 hl3_10
            clear el3_10 hl3_10
            have dl3_10 := dl3_9.trans tl3_10
            walk_at "rr"
            refine ⟨k_sz rfl, fun bl3_11 hl3_11 => ?_⟩
            generalize el3_11 : upd Hl3_10 bl3_11 _ = Hl3_11
            obtain ⟨tl3_11, fl3_11⟩ := upd_tells el3_11 hl3_11
            clear el3_11 hl3_11
            have dl3_11 := dl3_10.trans tl3_11
            walk_at "rr"
            have cl3_11 : Same Hl3_11 Hl3_11 := Same.refl _
            have cl3_10 := tl3_11.trans cl3_11
            have cl3_9 := tl3_10.trans cl3_10
            have cl3_8 := tl3_9.trans cl3_9
            have cl3_7 := tl3_8.trans cl3_8
            have cl3_6 := tl3_7.trans cl3_7
            have cl3_5 := tl3_6.trans cl3_6
            have cl3_4 := tl3_5.trans cl3_5
            have cl3_3 := tl3_4.trans cl3_4
            have cl3_2 := tl3_3.trans cl3_3
            have cl3_1 := tl3_2.trans cl3_2
            have cl3_0 := tl3_1.trans cl3_1
            have vs2 : ∀ v ∈ [V.ref bl3_5, V.ref bl3_10], Ls Hl3_11 v := by
              intro v hv
              simp only [List.mem_cons, List.not_mem_nil, or_false] at hv
              rcases hv with rfl | rfl
              · exact ⟨bl3_5, _, rfl, cl3_5 _ _ fl3_5, (by show 1 ≤ 5; decide), (Vs.cons (((Vs.tup (Vs.cons ((vS.same cl3_0).mono (Nat.le_refl _) (Nat.le_refl _) (by decide)) (Vs.cons (((Vs.tup (Vs.cons ((va_str (W := 1) (D := 0) (by decide +kernel) (by decide +kernel)).mono (Nat.le_refl _) (Nat.le_refl _) (by decide)) (Vs.nil (n := 0) (D := 0))) (cl3_1 _ _ fl3_1)).mono (n' := 0) (W' := 2) (D' := 1) (Nat.le_refl _) (by decide) (by decide)).mono (Nat.le_refl _) (Nat.le_refl _) (by decide)) (Vs.cons (((Vs.tup (Vs.cons ((va_str (W := 1) (D := 0) (by decide +kernel) (by decide +kernel)).mono (Nat.le_refl _) (Nat.le_refl _) (by decide)) (Vs.nil (n := 0) (D := 0))) (cl3_2 _ _ fl3_2)).mono (n' := 0) (W' := 2) (D' := 1) (Nat.le_refl _) (by decide) (by decide)).mono (Nat.le_refl _) (Nat.le_refl _) (by decide)) (Vs.cons (((Vs.tup (Vs.cons ((va_str (W := 1) (D := 0) (by decide +kernel) (by decide +kernel)).mono (Nat.le_refl _) (Nat.le_refl _) (by decide)) (Vs.nil (n := 0) (D := 0))) (cl3_3 _ _ fl3_3)).mono (n' := 0) (W' := 2) (D' := 1) (Nat.le_refl _) (by decide) (by decide)).mono (Nat.le_refl _) (Nat.le_refl _) (by decide)) (Vs.nil (n := 0) (D := 3)))))) (cl3_4 _ _ fl3_4)).mono (n' := 0) (W' := 260) (D' := 4) (Nat.le_refl _) (by decide) (by decide)).mono (Nat.le_refl _) (Nat.le_refl _) (by decide)) (Vs.nil (n := 0) (D := 4))).mono (Nat.le_refl _) (by decide) (by decide)⟩
              · exact ⟨bl3_10, _, rfl, cl3_10 _ _ fl3_10, (by show 3 ≤ 5; decide), (Vs.cons ((vO.same cl3_0).mono (Nat.le_refl _) (Nat.le_refl _) (by decide)) (Vs.cons (((Vs.tup (Vs.cons ((vS.same cl3_0).mono (Nat.le_refl _) (Nat.le_refl _) (by decide)) (Vs.cons (((Vs.tup (Vs.cons ((va_str (W := 1) (D := 0) (by decide +kernel) (by decide +kernel)).mono (Nat.le_refl _) (Nat.le_refl _) (by decide)) (Vs.nil (n := 0) (D := 0))) (cl3_6 _ _ fl3_6)).mono (n' := 0) (W' := 2) (D' := 1) (Nat.le_refl _) (by decide) (by decide)).mono (Nat.le_refl _) (Nat.le_refl _) (by decide)) (Vs.cons (((Vs.tup (Vs.nil (n := 0) (D := 0)) (cl3_7 _ _ fl3_7)).mono (n' := 0) (W' := 0) (D' := 1) (Nat.le_refl _) (by decide) (by decide)).mono (Nat.le_refl _) (Nat.le_refl _) (by decide)) (Vs.cons (((Vs.tup (Vs.nil (n := 0) (D := 0)) (cl3_8 _ _ fl3_8)).mono (n' := 0) (W' := 0) (D' := 1) (Nat.le_refl _) (by decide) (by decide)).mono (Nat.le_refl _) (Nat.le_refl _) (by decide)) (Vs.nil (n := 0) (D := 3)))))) (cl3_9 _ _ fl3_9)).mono (n' := 0) (W' := 256) (D' := 4) (Nat.le_refl _) (by decide) (by decide)).mono (Nat.le_refl _) (Nat.le_refl _) (by decide)) (Vs.cons ((vO.same cl3_0).mono (Nat.le_refl _) (Nat.le_refl _) (by decide)) (Vs.nil (n := 0) (D := 4))))).mono (Nat.le_refl _) (by decide) (by decide)⟩
            refine catL_of (cl3_0 _ _ hf) fl3_11 (by show _ + 2 ≤ 100000; have := (List.getElem?_eq_some_iff.mp e).1; omega) fun pz Hz tz fz _ => ?_
            refine ⟨pz, _, _, rfl, (s1.trans cl3_0).trans tz, fz, by rw [List.length_append]; show _ + 2 ≤ _; omega, fun v hv => ?_⟩
            rcases List.mem_append.mp hv with hv | hv
            · exact (lsf v hv).same (cl3_0.trans tz)
            · exact (vs2 v hv).same tz
          · obtain ⟨fo, f0, o2, rfl, s1, fo2, lf0, ls0⟩ := h
            rw [lI3] at lf0
            have lf0 : f0.length ≤ 73 := lf0
            have sH := sI3.trans s1
            walk_at "rr"
            have hz0 := sH _ _ ho
            have vO : Va M0 0 60 3 H9 (V.ref o) := vo.same sH
            have vx := vx.same sH
            have dz0 : Same H9 H9 := Same.refl _
            refine sla_of (dz0 _ _ hz0) (cut_to (k := 3)) fun bz1 Hz1 tz1 fz1 => ?_
            have dz1 := dz0.trans tz1
            walk_at "rr"
            refine ⟨k_sz rfl, fun bz2 hz2 => ?_⟩
            generalize ez2 : upd Hz1 bz2 _ = Hz2
            obtain ⟨tz2, fz2⟩ := upd_tells ez2 hz2
            clear ez2 hz2
            have dz2 := dz1.trans tz2
            walk_at "rr"
            refine ⟨k_sz rfl, fun bz3 hz3 => ?_⟩
            generalize ez3 : upd Hz2 bz3 _ = Hz3
            obtain ⟨tz3, fz3⟩ := upd_tells ez3 hz3
            clear ez3 hz3
            have dz3 := dz2.trans tz3
            walk_at "rr"
            refine ⟨k_sz rfl, fun bz4 hz4 => ?_⟩
            generalize ez4 : upd Hz3 bz4 _ = Hz4
            obtain ⟨tz4, fz4⟩ := upd_tells ez4 hz4
            clear ez4 hz4
            have dz4 := dz3.trans tz4
            walk_at "rr"
            refine catA_of (dz4 _ _ hz0) fz4 rfl (by show 4 + 1 ≤ 100000; decide) fun bz5 Hz5 tz5 fz5 => ?_
            have dz5 := dz4.trans tz5
            walk_at "rr"
            refine ⟨k_sz rfl, fun bz6 hz6 => ?_⟩
            generalize ez6 : upd Hz5 bz6 _ = Hz6
            obtain ⟨tz6, fz6⟩ := upd_tells ez6 hz6
            clear ez6 hz6
            have dz6 := dz5.trans tz6
            walk_at "rr"
            refine k_rv ?_
            walk_at "rr"
            refine ⟨o, _, rfl, SqT.of (dz6 _ _ hz0), fun bz7 hz7 => ?_⟩
            generalize ez7 : upd Hz6 bz7 _ = Hz7
            obtain ⟨tz7, fz7⟩ := upd_tells ez7 hz7
            clear ez7 hz7
            have dz7 := dz6.trans tz7
            walk_at "rr"
            refine ⟨k_sz rfl, fun bz8 hz8 => ?_⟩
            generalize ez8 : upd Hz7 bz8 _ = Hz8
            obtain ⟨tz8, fz8⟩ := upd_tells ez8 hz8
            clear ez8 hz8
            have dz8 := dz7.trans tz8
            walk_at "rr"
            refine ⟨k_sz rfl, fun bz9 hz9 => ?_⟩
            generalize ez9 : upd Hz8 bz9 _ = Hz9
            obtain ⟨tz9, fz9⟩ := upd_tells ez9 hz9
            clear ez9 hz9
            have dz9 := dz8.trans tz9
            walk_at "rr"
            refine ⟨k_sz rfl, fun bz10 hz10 => ?_⟩
            generalize ez10 : upd Hz9 bz10 _ = Hz10
            obtain ⟨tz10, fz10⟩ := upd_tells ez10 hz10
            clear ez10 hz10
            have dz10 := dz9.trans tz10
            walk_at "rr"
            refine ⟨k_sz rfl, fun bz11 hz11 => ?_⟩
            generalize ez11 : upd Hz10 bz11 _ = Hz11
            obtain ⟨tz11, fz11⟩ := upd_tells ez11 hz11
            clear ez11 hz11
            have dz11 := dz10.trans tz11
            walk_at "rr"
            refine ⟨k_sz rfl, fun bz12 hz12 => ?_⟩
            generalize ez12 : upd Hz11 bz12 _ = Hz12
            obtain ⟨tz12, fz12⟩ := upd_tells ez12 hz12
            clear ez12 hz12
            have dz12 := dz11.trans tz12
            walk_at "rr"
            refine ⟨k_sz rfl, fun bz13 hz13 => ?_⟩
            generalize ez13 : upd Hz12 bz13 _ = Hz13
            obtain ⟨tz13, fz13⟩ := upd_tells ez13 hz13
            clear ez13 hz13
            have dz13 := dz12.trans tz13
            walk_at "rr"
            refine ⟨k_sz rfl, fun bz14 hz14 => ?_⟩
            generalize ez14 : upd Hz13 bz14 _ = Hz14
            obtain ⟨tz14, fz14⟩ := upd_tells ez14 hz14
            clear ez14 hz14
            have dz14 := dz13.trans tz14
            walk_at "rr"
            refine ⟨k_sz rfl, fun bz15 hz15 => ?_⟩
            generalize ez15 : upd Hz14 bz15 _ = Hz15
            obtain ⟨tz15, fz15⟩ := upd_tells ez15 hz15
            clear ez15 hz15
            have dz15 := dz14.trans tz15
            walk_at "rr"
            have cz15 : Same Hz15 Hz15 := Same.refl _
            have cz14 := tz15.trans cz15
            have cz13 := tz14.trans cz14
            have cz12 := tz13.trans cz13
            have cz11 := tz12.trans cz12
            have cz10 := tz11.trans cz11
            have cz9 := tz10.trans cz10
            have cz8 := tz9.trans cz9
            have cz7 := tz8.trans cz8
            have cz6 := tz7.trans cz7
            have cz5 := tz6.trans cz6
            have cz4 := tz5.trans cz5
            have cz3 := tz4.trans cz4
            have cz2 := tz3.trans cz3
            have cz1 := tz2.trans cz2
            have cz0 := tz1.trans cz1
            have vs2 : ∀ v ∈ [V.ref bz2, V.ref bz6, V.ref bz8, V.ref bz13, V.ref bz14], Ls Hz15 v := by
              intro v hv
              simp only [List.mem_cons, List.not_mem_nil, or_false] at hv
              rcases hv with rfl | rfl | rfl | rfl | rfl
              · exact ⟨bz2, _, rfl, cz2 _ _ fz2, (by show 1 ≤ 5; decide), (Vs.cons (((Vs.tup ((vx.same cz0).take 3) (cz1 _ _ fz1)).mono (n' := 0) (W' := 60) (D' := 4) (Nat.le_refl _) (by decide) (by decide)).mono (Nat.le_refl _) (Nat.le_refl _) (by decide)) (Vs.nil (n := 0) (D := 4))).mono (Nat.le_refl _) (by decide) (by decide)⟩
              · exact ⟨bz6, _, rfl, cz6 _ _ fz6, (by show 1 ≤ 5; decide), (Vs.cons (((Vs.tup ((vx.same cz0).app (Vs.cons ((Vs.tup (D := 0) Vs.nil (cz3 _ _ fz3)).mono (Nat.le_refl _) (Nat.le_refl _) (by decide)) Vs.nil)) (cz5 _ _ fz5)).mono (n' := 0) (W' := 61) (D' := 4) (Nat.le_refl _) (by decide) (by decide)).mono (Nat.le_refl _) (Nat.le_refl _) (by decide)) (Vs.nil (n := 0) (D := 4))).mono (Nat.le_refl _) (by decide) (by decide)⟩
              · exact ⟨bz8, _, rfl, cz8 _ _ fz8, (by show 3 ≤ 5; decide), (Vs.cons ((vO.same cz0).mono (Nat.le_refl _) (Nat.le_refl _) (by decide)) (Vs.cons (((Vs.tup (vx.same cz0).rev (cz7 _ _ fz7)).mono (n' := 0) (W' := 60) (D' := 4) (Nat.le_refl _) (by decide) (by decide)).mono (Nat.le_refl _) (Nat.le_refl _) (by decide)) (Vs.cons ((va_non (W := 0) (D := 0)).mono (Nat.le_refl _) (Nat.le_refl _) (by decide)) (Vs.nil (n := 0) (D := 4))))).mono (Nat.le_refl _) (by decide) (by decide)⟩
              · exact ⟨bz13, _, rfl, cz13 _ _ fz13, (by show 1 ≤ 5; decide), (Vs.cons (((Vs.tup (Vs.cons ((va_str (W := 1) (D := 0) (by decide +kernel) (by decide +kernel)).mono (Nat.le_refl _) (Nat.le_refl _) (by decide)) (Vs.cons (((Vs.tup (Vs.cons ((va_str (W := 1) (D := 0) (by decide +kernel) (by decide +kernel)).mono (Nat.le_refl _) (Nat.le_refl _) (by decide)) (Vs.nil (n := 0) (D := 0))) (cz9 _ _ fz9)).mono (n' := 0) (W' := 2) (D' := 1) (Nat.le_refl _) (by decide) (by decide)).mono (Nat.le_refl _) (Nat.le_refl _) (by decide)) (Vs.cons (((Vs.tup (Vs.cons ((va_str (W := 1) (D := 0) (by decide +kernel) (by decide +kernel)).mono (Nat.le_refl _) (Nat.le_refl _) (by decide)) (Vs.nil (n := 0) (D := 0))) (cz10 _ _ fz10)).mono (n' := 0) (W' := 2) (D' := 1) (Nat.le_refl _) (by decide) (by decide)).mono (Nat.le_refl _) (Nat.le_refl _) (by decide)) (Vs.cons (((Vs.tup (Vs.cons ((va_str (W := 1) (D := 0) (by decide +kernel) (by decide +kernel)).mono (Nat.le_refl _) (Nat.le_refl _) (by decide)) (Vs.nil (n := 0) (D := 0))) (cz11 _ _ fz11)).mono (n' := 0) (W' := 2) (D' := 1) (Nat.le_refl _) (by decide) (by decide)).mono (Nat.le_refl _) (Nat.le_refl _) (by decide)) (Vs.nil (n := 0) (D := 1)))))) (cz12 _ _ fz12)).mono (n' := 0) (W' := 11) (D' := 2) (Nat.le_refl _) (by decide) (by decide)).mono (Nat.le_refl _) (Nat.le_refl _) (by decide)) (Vs.nil (n := 0) (D := 2))).mono (Nat.le_refl _) (by decide) (by decide)⟩
              · exact ⟨bz14, _, rfl, cz14 _ _ fz14, (by show 3 ≤ 5; decide), (Vs.cons ((va_bl (W := 0) (D := 0)).mono (Nat.le_refl _) (Nat.le_refl _) (by decide)) (Vs.cons ((vO.same cz0).mono (Nat.le_refl _) (Nat.le_refl _) (by decide)) (Vs.cons ((vO.same cz0).mono (Nat.le_refl _) (Nat.le_refl _) (by decide)) (Vs.nil (n := 0) (D := 3))))).mono (Nat.le_refl _) (by decide) (by decide)⟩
            refine catL_of (cz0 _ _ fo2) fz15 (by show _ + 5 ≤ 100000; omega) fun pz Hz tz fz _ => ?_
            refine k pz _ Hz ((sH.trans cz0).trans tz) fz (by rw [List.length_append]; show _ + 5 ≤ _; omega) fun v hv => ?_
            rcases List.mem_append.mp hv with hv | hv
            · exact (ls0 v hv).same (cz0.trans tz)
            · exact (vs2 v hv).same tz

end
end K01.L

set_option Elab.async false
set_option maxRecDepth 100000
set_option maxHeartbeats 4000000
set_option linter.unusedVariables false
namespace K01.L
open PySem PySem.Spec PyProof.Rows L2 Own StX
-- steps
local macro_rules | `(tactic| walk_at "lk") => `(tactic| first
  | assumption | exact upd_same
  | ((with_reducible refine' lk_new ?e (by assumption)); (case e => walk_at "lk"))
  | ((with_reducible refine' lk_ext (by assumption) ?e); (case e => walk_at "lk"))
  | ((with_reducible refine' lk_same (by assumption) ?e); (case e => walk_at "lk")))
local macro_rules | `(tactic| walk_at "sq") => `(tactic| first | assumption | exact SqL.of (by walk_at "lk") | exact SqT.of (by walk_at "lk"))
local macro_rules | `(tactic| walk_at "r1") => `(tactic| first
  | with_reducible refine k_seq ?_ | with_reducible refine k_asg ?_ | with_reducible refine k_ret ?_ | with_reducible refine k_drop ?_ | with_reducible refine k_next ?_ | with_reducible refine k_ifS ?_
  | ((with_reducible refine' k_var ?e ?_); (case e => exact rfl)) | with_reducible refine k_c ?_ | with_reducible refine k_op ?_ | with_reducible refine k_un ?_ | with_reducible refine k_test ?_ | with_reducible refine k_B ?_
  | with_reducible refine k_and ?_ | with_reducible refine k_or ?_ | with_reducible refine k_not ?_ | with_reducible refine k_andV ?_ | with_reducible refine k_orV ?_ | with_reducible refine k_notV ?_ | with_reducible refine k_if ?_
  | with_reducible refine k_nil ?_ | with_reducible refine k_cons ?_ | with_reducible refine k_tup ?_ | with_reducible refine k_lst ?_ | with_reducible refine k_call ?_ | with_reducible refine k_cb ?_ | with_reducible refine k_ck ?_
  | with_reducible refine k_par ?_ | with_reducible refine k_par1 ?_ | with_reducible refine k_tr ?_ | with_reducible refine k_rI0 ?_ | with_reducible refine k_rU ?_
  | with_reducible refine k_gN ?_ | with_reducible refine k_gS ?_ | with_reducible refine k_gNil ?_ | with_reducible refine k_gCons ?_ | with_reducible refine k_bm0 ?_ | with_reducible refine k_bm ?_
  | with_reducible refine k_for ?_ | with_reducible refine k_iL ?_ | with_reducible refine k_iT ?_ | with_reducible refine k_iR1 ?_ | ((with_reducible refine k_iR1i ?e ?_); (case e => first | decide | exact ⟨by omega, by omega⟩))
  | with_reducible refine k_max ?_ | with_reducible refine k_isB ?_ | with_reducible refine k_sl ?_ | with_reducible refine k_noP ?_ | with_reducible refine k_part ?_ | with_reducible refine k_partI ?_ | with_reducible refine k_revL ?_
  | ((with_reducible refine' k_ixqT ?e ?f ?_); (case e => walk_at "sq"); (case f => first | exact rfl | exact atI_head))
  | ((with_reducible refine' k_ixqL ?e ?f ?_); (case e => walk_at "sq"); (case f => first | exact rfl | exact atI_head))
  | ((with_reducible refine' k_lenL ?e ?_); (case e => walk_at "sq"))
  | ((with_reducible refine' k_lenT ?e ?_); (case e => walk_at "sq"))
  | ((with_reducible refine' k_ixL ?e ?f ?_); (case e => walk_at "sq"); (case f => first | exact rfl | exact atI_head))
  | ((with_reducible refine' k_ixT ?e ?f ?_); (case e => walk_at "sq"); (case f => first | exact rfl | exact atI_head))
  | ((with_reducible refine k_eq ?e ?_); (case e => exact rfl)) | ((with_reducible refine k_ne ?e ?_); (case e => exact rfl))
  | ((with_reducible refine k_rI ?e ?_); (case e => first | assumption | omega | decide | exact ⟨by omega, by omega⟩ | exact .inl ⟨by omega, by omega⟩ | exact .inr ⟨by omega, by omega⟩)))
local macro_rules | `(tactic| walk_at "rd") => `(tactic| repeat walk_at "r1")
local macro_rules | `(tactic| walk_at "r2") => `(tactic| first
  | walk_at "r1"
  | with_reducible refine k_ifTt ?_ | with_reducible refine k_ifFf ?_ | with_reducible refine k_ifNt ?_ | with_reducible refine k_ifNf ?_
  | with_reducible refine k_makeR ?_ | with_reducible refine k_tJ ?_ | with_reducible refine k_tJc ?_ | with_reducible refine k_tJn ?_ | with_reducible refine k_fmt ?_ | with_reducible refine k_lc ?_ | with_reducible refine k_din ?_ | with_reducible refine k_fld ?_ | with_reducible refine k_dget ?_
  | with_reducible refine k_dput ?_
  | with_reducible refine k_isNv ?_
  | with_reducible refine k_notNv ?_
  | with_reducible refine k_str ?_
  | with_reducible refine k_enumT ?_
  | with_reducible refine k_zipA ?_
  | with_reducible refine k_chain ?_
  | ((with_reducible refine' k_dgS ?e dkv_cells ?_); (case e => walk_at "lk"))
  | ((with_reducible refine' k_dgS ?e dkv_mixed ?_); (case e => walk_at "lk"))
  | ((with_reducible refine' k_dgS ?e dkv_turn ?_); (case e => walk_at "lk")))
local macro_rules | `(tactic| walk_at "rr") => `(tactic| repeat walk_at "r2")
-- steps end
theorem k_mulE {Q : VK} {H : Hp} {i j k : Int} (c : CMul i j) (e : i * j = k) (h : Q (.int k) H) : rI CMul (fun i j => V.int (i * j)) (.int i) (.int j) H Q := ⟨i, j, rfl, rfl, c, by subst e; exact h⟩
theorem k_par3 {i j l : Nat} {tl : TA} {D : Ends} {σ : L2.St} {H : Hp} (h : tl σ H fun vs H1 => ∃ a b c, vs = [a, b, c] ∧ D.nx (((σ.set i (some a)).set j (some b)).set l (some c)) H1) : tPar3 i j l tl D σ H := h
theorem name_asc {z : Str} (h : isNameB z = true) : Asc z := fun c hc => by
  unfold isNameB at h
  rw [Bool.and_eq_true] at h
  have := List.all_eq_true.mp h.2 c hc
  unfold isLet at this
  simp at this
  omega
theorem vs_names {M : Addr → Prop} {H : Hp} : ∀ {zs : List Str}, (∀ z ∈ zs, isNameB z = true) → Vs M 0 (9 * zs.length) 0 H (zs.map V.str)
  | [], _ => Vs.nil
  | z :: zs, h => (Vs.cons (va_str (W := 8) (name_asc (h z List.mem_cons_self)) (name_len (h z List.mem_cons_self))) (vs_names fun y hy => h y (List.mem_cons_of_mem _ hy))).mono (Nat.le_refl _) (by simp only [List.length_cons]; omega) (Nat.le_refl _)
/-- a table's parts -/
theorem vs_T {M : Addr → Prop} {H : Hp} {a : Addr} {t : T} (h : TAt H a t) (ok : t.Ok) : ∃ x1 x2 x3, H a = some (.tup [.str t.nm, x1, x2, x3]) ∧ Vs M 0 95 1 H [.str t.nm, x1, x2, x3] := by
  obtain ⟨c, i, k, h1, h2, h3, h4⟩ := h
  have l1 := some_len ok.ia ok.ii
  have l2 := some_len ok.ka ok.ki
  have l3 := ok.c3
  refine ⟨_, _, _, h1, ?_⟩
  have p1 : Va M 0 27 1 H (.ref c) := (Vs.tup (vs_names ok.cn) h2).mono (Nat.le_refl _) (by omega) (Nat.le_refl _)
  have p2 : Va M 0 27 1 H (.ref i) := (Vs.tup (vs_names fun z hz => ok.cn z (ok.ii z hz)) h3).mono (Nat.le_refl _) (by omega) (Nat.le_refl _)
  have p3 : Va M 0 27 1 H (.ref k) := (Vs.tup (vs_names fun z hz => ok.cn z (ok.ki z hz)) h4).mono (Nat.le_refl _) (by omega) (Nat.le_refl _)
  exact (Vs.cons (va_str (W := 8) (name_asc ok.nm) (name_len ok.nm)) (Vs.cons p1 (Vs.cons p2 (Vs.cons p3 Vs.nil)))).mono (Nat.le_refl _) (by decide) (Nat.le_refl _)
theorem va_T {M : Addr → Prop} {H : Hp} {a : Addr} {t : T} (h : TAt H a t) (ok : t.Ok) : Va M 0 100 2 H (.ref a) := by
  obtain ⟨x1, x2, x3, e, v⟩ := vs_T (M := M) h ok
  exact (Vs.tup v e).mono (Nat.le_refl _) (by decide) (Nat.le_refl _)
/-- what the asking wants -/
def AllV (M : Addr → Prop) (H : Hp) (xs : List V) : Prop := ∀ v ∈ xs, Va M 2 1700 20 H v
theorem AllV.get {M : Addr → Prop} {H : Hp} : ∀ {xs : List V}, AllV M H xs → ∃ ds, DqAll H xs ds ∧ ∀ d ∈ ds, Ok1 d
  | [], _ => ⟨[], .nil, fun _ z => by cases z⟩
  | x :: xs, h => by
    obtain ⟨ds, q, o⟩ := AllV.get (xs := xs) fun v hv => h v (List.mem_cons_of_mem _ hv)
    obtain ⟨d, dn, f⟩ := h x List.mem_cons_self
    refine ⟨d :: ds, .cons dn.dq q, fun e he => ?_⟩
    rcases List.mem_cons.mp he with rfl | he
    · exact f.mono (by decide) (by decide) (by decide)
    · exact o e he
theorem right_of {M : Addr → Prop} {H : Hp} {Q : VK} {E : XK} {l : Addr} {xs : List V} (hl : H l = some (.lst xs)) (h : AllV M H xs) (lx : xs.length ≤ 5) (k : ∀ H', Same H H' → Q (.bl true) H') : spRight [.ref l] H Q E := by
  obtain ⟨ds, q, o⟩ := h.get
  exact ⟨l, xs, ds, rfl, hl, q, o, by rw [← q.len]; exact lx, k⟩
theorem bent5 {H : Hp} {Q : VK} {E : XK} {d c : Addr} {b : Int} {v : V} {n W D : Nat} (dk : Deck d c b H) (hb : b ≤ 700000000) (hv : Va (Dk d c) n W D H v) (hn : n ≤ 900) (hW : W ≤ 1000) (hD : D ≤ 4)
    (k : ∀ v' H', Va (Dk d c) (n + 1) (3 * W + 200) (D + 2) H' v' → Deck d c (b + 25) H' → Ext (Dk d c) H H' → Q v' H') : spBent 5 [.ref d, v] H Q E :=
  ⟨d, c, b, v, n, W, D, rfl, dk, (by show b + 5 * (((4 : Nat) : Int) + 1) ≤ 800000000; omega), hv, hn, hW, hD, (by show 4 ≤ 40; decide), fun v' H' h1 h2 h3 => k v' H' h1 (h2.mono (by show b + 5 * (((4 : Nat) : Int) + 1) ≤ _; omega)) h3⟩
section
variable {P : Program} {w : World} {K : PySem.W.Frag} {mg : Str → Option Value} {g0 : Heap} {C N : Addr}
abbrev s_law : Stmt := top 39
theorem sc_law : FnScope ["_law_script", "_law_deck_here", "_law_some", "_law_turn", "_law_k", "_law_bent_here", "_law_at", "_law_other_here", "_law_way"] ["_law_script"] (defScope s_law) :=
  ⟨rfl, rfl, rfl, by decide +kernel, rfl, by decide +kernel, by decide +kernel⟩
def spLaw (K : PySem.W.Frag) : Sp := fun vs H Q _ => ∃ (a : Addr) (xs : List Int), vs = [.ref a] ∧ SqL K H a (xs.map V.int) ∧ xs.length ≤ 63 ∧ Only H ∧ ∀ H', Q (.bl true) H'
theorem ok_law {f : Addr} {fd : FuncData} (F : Fun K "law" "law" s_law f fd) (z_range : mg "range" = none) (z_len : mg "len" = none) (z_int : mg "int" = none)
    (C_deck : Cal P w K mg g0 "_law_deck" 1 ["_law_script"] (spDeck K)) (C_draw : Cal P w K mg g0 "_law_draw" 1 ["_law_deck_here", "_law_many"] spDraw)
    (C_tables : Cal P w K mg g0 "_law_tables" 4 ["_law_deck_here", "_law_many"] spTablesL) (C_by_hand : Cal P w K mg g0 "_law_by_hand" 1 ["_law_one"] spByHand)
    (C_right : Cal P w K mg g0 "_law_right" 8 ["_law_some"] spRight) (C_bent : Cal P w K mg g0 "_law_bent" 8 ["_law_deck_here", "_law_it"] (spBent 5)) :
    GOk P w K mg g0 CX0 9 f fd ["_law_script"] (spLaw K) := by
  have nd := sc_law.nd
  refine okG F sc_law (fun vs H Q E h => ?_) (fun cdv A up s H vs Q E qt hr h => ?_)
  · obtain ⟨a, xs, rfl, _⟩ := h
    rfl
  · obtain ⟨a, xs, rfl, hs, lx, oH, k⟩ := h
    refine ⟨_, (pss_cons (ps_set (i := 1) nd rfl (Or.inl rfl) (pe_c C_deck qt (hr.mono (by decide)) (pa_cons (pv 0) pa_nil)))
        (pss_cons (ps_for PassesOwn.never rfl (pi_list (pe_c C_by_hand qt (hr.mono (by decide)) (pa_cons (pe_tup (pa_cons pe_str (pa_cons (pe_tup (pa_cons pe_str (pa_cons pe_str pa_nil))) (pa_cons (pe_tup (pa_cons pe_str pa_nil)) (pa_cons (pe_tup (pa_cons pe_str pa_nil)) pa_nil))))) pa_nil))) (pg_name (i := 2) nd rfl (Or.inl rfl)) (pss_one (ps_if (pt_not (pt_val (pe_c C_right qt (hr.mono (by decide)) (pa_cons (pv 2) pa_nil)))) (pss_one (ps_ret pe_bl)) pss_nil)))
        (pss_cons (ps_for PassesOwn.never rfl (pi_range1 (by rfl) z_range (pa_cons pe_int pa_nil)) (pg_name (i := 3) nd rfl (Or.inl rfl)) (pss_cons (ps_set (i := 2) nd rfl (Or.inl rfl) (pe_c C_tables qt (hr.mono (by decide)) (pa_cons (pv 1) (pa_cons (pe_c C_draw qt (hr.mono (by decide)) (pa_cons (pv 1) (pa_cons pe_int pa_nil))) pa_nil))))
        (pss_cons (ps_if (pt_not (pt_val (pe_c C_right qt (hr.mono (by decide)) (pa_cons (pv 2) pa_nil)))) (pss_one (ps_ret pe_bl)) pss_nil)
        (pss_one (ps_for PassesOwn.never rfl (pi_range1 (by rfl) z_range (pa_cons (pe_op op_mul pe_int (pe_callTy call_int1 (by rfl) z_int (by decide +kernel) (pa_cons (pe_cmpR (op_neL0 hr.units) (pv 2) (pe_lst pa_nil) (nomark _)) pa_nil))) pa_nil)) (pg_name (i := 4) nd rfl (Or.inl rfl)) (pss_cons (ps_par3 (i := 6) (j := 7) (l := 8) (by rfl) nd rfl rfl rfl (by decide) (by decide) (by decide) rfl rfl rfl (pa_cons (pe_c C_draw qt (hr.mono (by decide)) (pa_cons (pv 1) (pa_cons (pe_callB (c_lenK (K := K) rfl) (by rfl) z_len (by decide +kernel) (pa_cons (pv 2) pa_nil)) pa_nil))) (pa_cons (pe_c C_draw qt (hr.mono (by decide)) (pa_cons (pv 1) (pa_cons (pe_callB (c_lenK (K := K) rfl) (by rfl) z_len (by decide +kernel) (pa_cons (pv 2) pa_nil)) pa_nil))) (pa_cons (pe_c C_draw qt (hr.mono (by decide)) (pa_cons (pv 1) (pa_cons pe_int pa_nil))) pa_nil))) (by rfl))
        (pss_cons (ps_set (i := 5) nd rfl (Or.inl rfl) (pe_op op_catA (pe_tup (pa_cons (pe_ix ix_tup (pe_ix ix_seq (pv 2) (pv 7) (fun _ _ => rfl)) pe_int (fun _ _ => rfl)) pa_nil)) (pe_slice sl_tupA (pe_ix ix_seq (pv 2) (pv 6) (fun _ _ => rfl)) (po_some pe_int) po_none)))
        (Evl.pss_cut (ps_if (pt_cmpR op_gt (pv 8) pe_int (nomark _)) (pss_one (ps_set (i := 5) nd rfl (Or.inl rfl) (pe_c C_bent qt (hr.mono (by decide)) (pa_cons (pv 1) (pa_cons (pe_ix ix_seq (pv 2) (pv 6) (fun _ _ => rfl)) pa_nil))))) pss_nil)
        (Evl.pss_cut (ps_if (pt_cmpR op_eq (pv 8) pe_int (nomark _)) (pss_one (ps_set (i := 5) nd rfl (Or.inl rfl) (pe_c C_bent qt (hr.mono (by decide)) (pa_cons (pv 1) (pa_cons (pv 5) pa_nil))))) pss_nil)
        (pss_one (ps_if (pt_not (pt_val (pe_c C_right qt (hr.mono (by decide)) (pa_cons (pe_op op_cat (pe_op op_cat (pe_slice sl_list (pv 2) po_none (po_some (pv 6))) (pe_lst (pa_cons (pv 5) pa_nil))) (pe_slice sl_list (pv 2) (po_some (pe_op op_add (pv 6) pe_int)) po_none)) pa_nil)))) (pss_one (ps_ret pe_bl)) pss_nil)))))))))))
        (pss_one (ps_ret pe_bl))))), ?_⟩
    walk_at "rr"
    refine ⟨a, xs, rfl, hs, lx, fun d c H1 hd hc D1 s1 => ?_⟩
    walk_at "rr"
    refine ⟨k_sz rfl, fun b2 hb2 => ?_⟩
    generalize e2 : upd H1 b2 _ = H2
    obtain ⟨t2, f2⟩ := upd_tells e2 hb2
    clear e2 hb2
    walk_at "rr"
    refine ⟨k_sz rfl, fun b3 hb3 => ?_⟩
    generalize e3 : upd H2 b3 _ = H3
    obtain ⟨t3, f3⟩ := upd_tells e3 hb3
    clear e3 hb3
    walk_at "rr"
    refine ⟨k_sz rfl, fun b4 hb4 => ?_⟩
    generalize e4 : upd H3 b4 _ = H4
    obtain ⟨t4, f4⟩ := upd_tells e4 hb4
    clear e4 hb4
    walk_at "rr"
    refine ⟨k_sz rfl, fun b5 hb5 => ?_⟩
    generalize e5 : upd H4 b5 _ = H5
    obtain ⟨t5, f5⟩ := upd_tells e5 hb5
    clear e5 hb5
    walk_at "rr"
    have one1 : Vs M0 0 60 2 H5 [V.str (Str.ofString "tt"), V.ref b2, V.ref b3, V.ref b4] := by
      have s1 : ∀ {z : Str} {W : Nat}, Asc z → z.length ≤ W → Va M0 0 W 0 H5 (.str z) := fun h l => va_str h l
      have p1 : Va M0 0 4 1 H5 (V.ref b2) := (Vs.tup (Vs.cons (s1 (z := Str.ofString "a") (W := 1) (by decide +kernel) (by decide +kernel)) (Vs.cons (s1 (z := Str.ofString "b") (W := 1) (by decide +kernel) (by decide +kernel)) Vs.nil)) (t5 _ _ (t4 _ _ (t3 _ _ f2)))).mono (Nat.le_refl _) (by decide) (by decide)
      have p2 : Va M0 0 4 1 H5 (V.ref b3) := (Vs.tup (Vs.cons (s1 (z := Str.ofString "a") (W := 1) (by decide +kernel) (by decide +kernel)) Vs.nil) (t5 _ _ (t4 _ _ f3))).mono (Nat.le_refl _) (by decide) (by decide)
      have p3 : Va M0 0 4 1 H5 (V.ref b4) := (Vs.tup (Vs.cons (s1 (z := Str.ofString "b") (W := 1) (by decide +kernel) (by decide +kernel)) Vs.nil) (t5 _ _ f4)).mono (Nat.le_refl _) (by decide) (by decide)
      exact (Vs.cons ((s1 (z := Str.ofString "tt") (W := 2) (by decide +kernel) (by decide +kernel)).mono (D' := 1) (Nat.le_refl _) (Nat.le_refl _) (by decide)) (Vs.cons p1 (Vs.cons p2 (Vs.cons p3 Vs.nil)))).mono (Nat.le_refl _) (by decide) (by decide)
    refine ⟨b5, _, _, _, _, rfl, f5, one1, fun p vs H6 s6 hp lv lsv => ?_⟩
    have D6 : Deck d c 0 H6 := ((((D1.same t2).same t3).same t4).same t5).same s6
    clear one1 f2 f3 f4 f5 t2 t3 t4 t5
    let Pa : Nat → L2.St → Hp → Prop := fun i σ H' => ∃ o2 : Option V, σ = [some (.ref a), some (.ref d), o2, none, none, none, none, none, none] ∧ Same H6 H'
    refine ⟨p, rfl, ⟨_, SqL.of hp⟩, for_it (walk_list (xs := vs)) Pa ⟨none, rfl, Same.refl _⟩ (fun i σ H' _ h => ?_) (fun i x σ H7 H8 hi h y => ?_) fun σ H7 h => ?_⟩
    · obtain ⟨_, _, s⟩ := h
      exact SqL.of (s _ _ hp)
    · obtain ⟨o2, rfl, s7⟩ := h
      obtain ⟨rfl, y⟩ := y
      have e : vs[i]? = some x := y
      obtain ⟨l, xs, rfl, hl, l5, ⟨ds, dn, fa⟩⟩ := lsv x (List.mem_of_getElem? e)
      walk_at "rr"
      refine ⟨l, xs, ds, rfl, s7 _ _ hl, dn.dq.same s7, fun d hd => ?_, by rw [← dn.dq.len]; exact l5, fun H9 s9 => ?_⟩
      · obtain ⟨j, hj⟩ := List.getElem?_of_mem hd
        exact (FD.get fa hj).mono (by decide) (by decide) (by decide)
      · walk_at "rr"
        exact ⟨_, rfl, s7.trans s9⟩
    · obtain ⟨o2, rfl, s7⟩ := h
      have D7 := D6.same s7
      walk_at "rr"
      refine ⟨6, rfl, by decide, by decide, ?_⟩
      let Pv : Nat → L2.St → Hp → Prop := fun i σ H' => ∃ (o2 o3 o4 o5 o6 o7 o8 : Option V), σ = [some (.ref a), some (.ref d), o2, o3, o4, o5, o6, o7, o8] ∧ Deck d c (2000 * i) H'
      refine for_it (walk_range (lo := 0) (n := 6)) Pv ⟨_, _, _, _, _, _, _, rfl, by simpa using D7⟩ (fun _ _ _ _ _ => trivial) (fun i x σ H2 H3 hi h y => ?_) fun σ H2 h => ?_
      · obtain ⟨o2, o3, o4, o5, o6, o7, o8, rfl, D2⟩ := h
        obtain ⟨rfl, rfl⟩ := y
        walk_at "rr"
        refine ⟨d, c, 2000 * i, 5, rfl, D2, by omega, by decide, by decide, fun r H4 r0 r1 D4 x4 => ?_⟩
        obtain ⟨r, rfl⟩ := Int.eq_ofNat_of_zero_le r0
        walk_at "rr"
        refine ⟨d, c, 2000 * i + 1, r, rfl, D4, by omega, by omega, fun l ts H5 lt T5 hl nl fl D5 x5 => ?_⟩
        walk_at "rr"
        have l4 : ts.length ≤ 4 := by omega
        have rl : (refsOf ts).length = ts.length := List.length_map ..
        have av : ∀ H', Ext (Dk d c) H5 H' → AllV (Dk d c) H' (refsOf ts) := fun H' x v hv => by
          obtain ⟨y, hy, rfl⟩ := List.mem_map.mp hv
          exact ((va_T (M := Dk d c) (T5.at_ y hy) (T5.ok y hy)).ext x).mono (by decide) (by decide) (by decide)
        refine right_of hl (av H5 (Ext.refl _)) (by omega) fun H6 s6 => ?_
        walk_at "rr"
        refine ⟨k_sz rfl, fun b7 hb7 => ?_⟩
        generalize e7 : upd H6 b7 _ = H7
        obtain ⟨t7, f7⟩ := upd_tells e7 hb7
        clear e7 hb7
        walk_at "rr"
        have hl7 := t7 _ _ (s6 _ _ hl)
        have x57 : Ext (Dk d c) H5 H7 := Own.Same.ext (s6.trans t7)
        have D7 := (D5.same s6).same t7
        refine ⟨l, b7, refsOf ts, rfl, rfl, SqL.of hl7, SqL.of f7, ?_⟩
        refine .inr ⟨_, rfl, ?_⟩
        obtain ⟨n, en, n8, npos⟩ : ∃ n : Nat, (8 * (if (!(refsOf ts).isEmpty) = true then 1 else 0) : Int) = (n : Int) ∧ n ≤ 8 ∧ (0 < n → 0 < ts.length) := by
          cases ts with
          | nil => exact ⟨0, rfl, by decide, fun z => absurd z (by decide)⟩
          | cons y ts => exact ⟨8, rfl, by decide, fun _ => Nat.succ_pos _⟩
        refine k_mulE (.inl ⟨by decide, by decide⟩) en ?_
        clear en
        walk_at "rr"
        refine ⟨(n : Int), rfl, by omega, by omega, ?_⟩
        rw [Int.toNat_natCast]
        let Pw : Nat → L2.St → Hp → Prop := fun j σ H' => ∃ (o4 o5 o6 o7 o8 : Option V), σ = [some (.ref a), some (.ref d), some (.ref l), some (.int (0 + (i : Int))), o4, o5, o6, o7, o8] ∧ Deck d c (2000 * i + 160 + 60 * j) H' ∧ Ext (Dk d c) H7 H'
        refine for_it (walk_range (lo := 0) (n := n)) Pw ⟨_, _, _, _, _, rfl, D7.mono (by omega), .refl _⟩ (fun _ _ _ _ _ => trivial) (fun j x σ H8 H9 hj h y => ?_) fun σ H8 h => ?_
        · obtain ⟨p4, p5, p6, p7, p8, rfl, D8, x8⟩ := h
          obtain ⟨rfl, rfl⟩ := y
          have hl8 := x8.2 _ _ nl hl7
          have tpos := npos (by omega)
          walk_at "rr"
          refine k_par3 ?_
          walk_at "rr"
          rw [rl]
          refine ⟨d, c, _, _, rfl, D8, by omega, by omega, by omega, fun at_ H10 a0 a1 D10 x10 => ?_⟩
          obtain ⟨at_, rfl⟩ := Int.eq_ofNat_of_zero_le a0
          have hl10 := x10.2 _ _ nl hl8
          walk_at "rr"
          rw [rl]
          refine ⟨d, c, _, _, rfl, D10, by omega, by omega, by omega, fun ot H11 b0 b1 D11 x11 => ?_⟩
          obtain ⟨ot, rfl⟩ := Int.eq_ofNat_of_zero_le b0
          walk_at "rr"
          refine ⟨d, c, _, _, rfl, D11, by omega, by omega, by omega, fun way H12 w0 w1 D12 x12 => ?_⟩
          have x712 := ((x8.trans x10).trans x11).trans x12
          have x512 := x57.trans x712
          have hl12 : H12 l = some (.lst (refsOf ts)) := x12.2 _ _ nl (x11.2 _ _ nl hl10)
          have av12 : AllV (Dk d c) H12 (refsOf ts) := av H12 x512
          clear x10 x11 x12 D10 D11 hl10 hl8 D8 x8
          walk_at "rr"
          refine ⟨_, _, _, rfl, ?_⟩
          walk_at "rr"
          obtain ⟨ya, hya⟩ : ∃ y, ts[at_]? = some y := ⟨_, List.getElem?_eq_getElem (by omega)⟩
          obtain ⟨yo, hyo⟩ : ∃ y, ts[ot]? = some y := ⟨_, List.getElem?_eq_getElem (by omega)⟩
          have ra : (refsOf ts)[at_]? = some (V.ref ya.1) := by unfold refsOf; rw [List.getElem?_map, hya]; rfl
          have ro : (refsOf ts)[ot]? = some (V.ref yo.1) := by unfold refsOf; rw [List.getElem?_map, hyo]; rfl
          have ma := List.mem_of_getElem? hya
          have mo := List.mem_of_getElem? hyo
          have oka := T5.ok ya ma
          have oko := T5.ok yo mo
          have ta : TAt H12 ya.1 ya.2 := (T5.at_ ya ma).ext x512
          have to : TAt H12 yo.1 yo.2 := (T5.at_ yo mo).ext x512
          obtain ⟨u1, u2, u3, hU, vU⟩ := vs_T (M := Dk d c) ta oka
          obtain ⟨w1', w2', w3', hW, _⟩ := vs_T (M := Dk d c) to oko
          refine k_ixqL (SqL.of hl12) (atI_nat ro) ?_
          walk_at "rr"
          try refine k_ixT (SqT.of hW) rfl ?_
          try walk_at "rr"
          refine ⟨k_sz rfl, fun b13 hb13 => ?_⟩
          generalize e13 : upd H12 b13 _ = H13
          obtain ⟨t13, f13⟩ := upd_tells e13 hb13
          clear e13 hb13
          walk_at "rr"
          refine k_ixqL (SqL.of (t13 _ _ hl12)) (atI_nat ra) ?_
          walk_at "rr"
          refine sla_of (t13 _ _ hU) (cut_from (k := 1)) fun b14 H14 t14 f14 => ?_
          walk_at "rr"
          refine catA_of (t14 _ _ f13) f14 rfl (by show 1 + 3 ≤ 100000; decide) fun b15 H15 t15 f15 => ?_
          walk_at "rr"
          have t1215 := (t13.trans t14).trans t15
          have v15 : Va (Dk d c) 1 500 4 H15 (V.ref b15) := by
            have nm : Va (Dk d c) 0 8 1 H15 (V.str yo.2.nm) := va_str (name_asc oko.nm) (name_len oko.nm)
            have dr := (vU.drop 1).same t1215
            exact (Vs.tup ((Vs.cons nm Vs.nil).app dr) f15).mono (by decide) (by decide) (by decide)
          have D15 := D12.same t1215
          have x15 : Ext (Dk d c) H12 H15 := Own.Same.ext t1215
          have hl15 := t1215 _ _ hl12
          clear t13 t14 t15 f13 f14 f15 hW hU vU
          refine ⟨fun σ' H' => ∃ v5 : V, σ' = [some (.ref a), some (.ref d), some (.ref l), some (.int (0 + (i : Int))), some (.int (0 + (j : Int))), some v5, some (.int (at_ : Int)), some (.int (ot : Int)), some (.int way)] ∧ Va (Dk d c) 1 500 4 H' v5 ∧ Deck d c (2000 * i + 160 + 60 * j + 28) H' ∧ Ext (Dk d c) H12 H', ?_, fun σ' H16 h => ?_⟩
          · walk_at "rr"
            refine k_iteD (fun z1 => ?_) fun z1 => ?_
            · walk_at "rr"
              refine k_ixqL (SqL.of hl15) (atI_nat ra) ?_
              walk_at "rr"
              refine bent5 D15 (by omega) ((va_T ta oka).ext x15) (by decide) (by decide) (by decide) fun v' H16 hv D16 x16 => ?_
              walk_at "rr"
              exact ⟨v', rfl, hv, D16.mono (by omega), x15.trans x16⟩
            · walk_at "rr"
              exact ⟨_, rfl, v15, D15.mono (by omega), x15⟩
          · obtain ⟨v5, rfl, hv5, D16, x16⟩ := h
            refine ⟨fun σ' H' => ∃ v5 : V, σ' = [some (.ref a), some (.ref d), some (.ref l), some (.int (0 + (i : Int))), some (.int (0 + (j : Int))), some v5, some (.int (at_ : Int)), some (.int (ot : Int)), some (.int way)] ∧ Va (Dk d c) 2 1700 6 H' v5 ∧ Deck d c (2000 * i + 160 + 60 * j + 53) H' ∧ Ext (Dk d c) H12 H', ?_, fun σ' H17 h => ?_⟩
            · walk_at "rr"
              refine k_iteD (fun z1 => ?_) fun z1 => ?_
              · walk_at "rr"
                refine bent5 D16 (by omega) hv5 (by decide) (by decide) (by decide) fun v' H17 hv D17 x17 => ?_
                walk_at "rr"
                exact ⟨v', rfl, hv, D17.mono (by omega), x16.trans x17⟩
              · walk_at "rr"
                exact ⟨_, rfl, hv5.mono (by decide) (by decide) (by decide), D16.mono (by omega), x16⟩
            · obtain ⟨v6, rfl, hv6, D17, x17⟩ := h
              have hl17 := x17.2 _ _ nl hl12
              have av17 := av H17 (x512.trans x17)
              walk_at "rr"
              refine k_slL (SqL.of hl17) fun c1 hc1 => ?_
              rw [cut_to]
              generalize e18 : upd H17 c1 _ = H18
              obtain ⟨t18, f18⟩ := upd_tells e18 hc1
              clear e18 hc1
              walk_at "rr"
              refine ⟨k_sz rfl, fun c2 hc2 => ?_⟩
              generalize e19 : upd H18 c2 _ = H19
              obtain ⟨t19, f19⟩ := upd_tells e19 hc2
              clear e19 hc2
              walk_at "rr"
              refine catL_of (t19 _ _ f18) f19 (by rw [List.length_take]; show _ + 1 ≤ 100000; omega) fun c3 H20 t20 f20 _ => ?_
              walk_at "rr"
              refine k_slL (SqL.of (t20 _ _ (t19 _ _ (t18 _ _ hl17)))) fun c4 hc4 => ?_
              have c4e : cutV (refsOf ts) (some ((at_ : Int) + 1)) none = (refsOf ts).drop (at_ + 1) := by
                have := cut_from (xs := refsOf ts) (k := at_ + 1)
                rw [← this]
                rfl
              rw [c4e]
              generalize e21 : upd H20 c4 _ = H21
              obtain ⟨t21, f21⟩ := upd_tells e21 hc4
              clear e21 hc4
              walk_at "rr"
              refine catL_of (t21 _ _ f20) f21 (by rw [List.length_append, List.length_take, List.length_drop]; show _ + 1 + _ ≤ 100000; omega) fun c5 H22 t22 f22 _ => ?_
              walk_at "rr"
              have t1722 := (((t18.trans t19).trans t20).trans t21).trans t22
              have good : AllV (Dk d c) H22 ((refsOf ts).take at_ ++ [v6] ++ (refsOf ts).drop (at_ + 1)) := fun v hv => by
                rcases List.mem_append.mp hv with hv | hv
                · rcases List.mem_append.mp hv with hv | hv
                  · exact (av17 v (List.mem_of_mem_take hv)).same t1722
                  · rw [List.mem_singleton] at hv
                    subst hv
                    exact (hv6.same t1722).mono (by decide) (by decide) (by decide)
                · exact (av17 v (List.mem_of_mem_drop hv)).same t1722
              refine right_of f22 good (by rw [List.length_append, List.length_append, List.length_take, List.length_drop, rl]; show _ + 1 + _ ≤ 5; omega) fun H23 s23 => ?_
              walk_at "rr"
              refine ⟨_, _, _, _, _, rfl, ((D17.same t1722).same s23).mono (by omega), x712.trans (x17.trans (Own.Same.ext (t1722.trans s23)))⟩
        · obtain ⟨p4, p5, p6, p7, p8, rfl, D8, x8⟩ := h
          exact ⟨_, _, _, _, _, _, _, rfl, D8.mono (by omega)⟩
      · obtain ⟨o2, o3, o4, o5, o6, o7, o8, rfl, D2⟩ := h
        walk_at "rr"
        exact k _
end
end K01.L

set_option Elab.async false
set_option maxRecDepth 100000
set_option maxHeartbeats 4000000
set_option linter.unusedVariables false
namespace K01
open PySem PySem.Spec PyProof.Rows L2 Own
theorem all_mk {l : PySem.W.OpenLaw} {w : World} {K : PySem.W.Frag} {h : Heap} {mg : Str → Option Value} {fa C N prtables : Addr} (X : K.In h) (G : h.Ns mainGlobals mg) (hfa : mg "law" = some (.ref fa))
    {fI : Addr} {odI anI : Option Addr} {slI : Array (Option Value)} {ocI kVI dcI pmI cdI ctI : Value}
    {ftables : Addr} {odtables antables : Option Addr} {sltables : Array (Option Value)} {octables kVtables dctables pmtables cdtables cttables : Value}
    {fNI : Addr} {odNI anNI : Option Addr} {slNI : Array (Option Value)} {ocNI kVNI dcNI pmNI cdNI ctNI : Value}
    {nmN qN : Str} {NN : Addr} {bsN bmN : List Value} {snN : List Str} {subN : List Value} {abN : Bool} {colN : Option Bool} {ddN : Option Addr} {m0N m1N m2N m3N m5N : Option Value}
    {resttables : List Value} {tkL tkM : Tok} {ob1 : Obj}
    (lk1 : K.lookup 1 = some ob1)
    (ck1 : ob1.cls = .type "dict")
    (aC : PySem.W.nsIn K mainGlobals "Schema" = some (some (.ref C)))
    (aN : PySem.W.nsIn K mainGlobals "InvalidSchema" = some (some (.ref N)))
    (vL : PySem.W.nsIn K mainGlobals "LETTERS" = some (some (.str letters tkL)))
    (vM : PySem.W.nsIn K mainGlobals "MOST_COLUMNS" = some (some (.int 3 tkM)))
    (pg : PySem.W.plainGet K C Str.empty = true)
    (hd : PySem.W.hasDictIn K C = true)
    (po : PySem.W.plainOver K C = true)
    (sa : PySem.W.findIn K (.ref C) "__setattr__" = some (some (.builtin "object.__setattr__")))
    (nN : PySem.W.findIn K (.ref C) "_named" = some none)
    (nT : PySem.W.findIn K (.ref C) "_tables" = some none)
    (mki : PySem.W.makesIn K C = true)
    (kC : PySem.W.keepIn K (.ref C) = true)
    (aI : PySem.W.findIn K (.ref C) "__init__" = some (some (.ref fI)))
    (iI : PySem.W.isFn K (.ref fI) = true)
    (lI : K.lookup fI = some ⟨ocI, odI, .func (PySem.W.fnOf "__init__" "Schema.__init__" (defArgs s_Schema___init__) (defBody s_Schema___init__) (defScope s_Schema___init__) .none kVI dcI pmI anI cdI ctI), slI⟩)
    (cI : PySem.W.codeIn K cdI "Schema.__init__" = true)
    (kI : PySem.W.keepIn K (.ref fI) = true)
    (ptables : PySem.W.findIn K (.ref C) "tables" = some (some (.ref prtables)))
    (gtables : PySem.W.specialIn K (.ref prtables) "__get__" = some (some (.builtin "property.__get__")))
    (ttables : PySem.W.takesIn K (.ref prtables) = some true)
    (rtables : PySem.W.recIn K prtables "property" = some (.ref ftables :: resttables))
    (ltables : K.lookup ftables = some ⟨octables, odtables, .func (PySem.W.fnOf "tables" "Schema.tables" (defArgs s_Schema_tables) (defBody s_Schema_tables) (defScope s_Schema_tables) .none kVtables dctables pmtables antables cdtables cttables), sltables⟩)
    (ctables : PySem.W.codeIn K cdtables "Schema.tables" = true)
    (ktables : PySem.W.keepIn K (.ref ftables) = true)
    (xL : K.lookup N = some (excClassObj nmN qN N NN bsN bmN true snN subN abN colN ddN m0N m1N m2N m3N m5N "ValueError.__new__"))
    (xb : PySem.HandSPX.refsVE bmN = true)
    (saN : PySem.W.findIn K (.ref N) "__setattr__" = some (some (.builtin "object.__setattr__")))
    (exN : PySem.W.subIn K (.ref N) (.type "BaseException") = some true)
    (tyN : PySem.W.typeIn K (.ref N) = some (.type "type"))
    (kN : PySem.W.keepIn K (.ref N) = true)
    (n1 : PySem.W.findIn K (.ref N) "part" = some none)
    (gaN : PySem.W.findIn K (.ref N) "__getattribute__" = some (some (.builtin "BaseException.__getattribute__")))
    (ggN : PySem.W.findIn K (.ref N) "__getattr__" = some none)
    (hdN : PySem.W.hasDictIn K N = true)
    (seN : PySem.W.exmOne K (.ref N) (.ref N) = some true)
    (aNI : PySem.W.findIn K (.ref N) "__init__" = some (some (.ref fNI)))
    (tNI : PySem.W.typeIn K (.ref fNI) = some (.type "function"))
    (lNI : K.lookup fNI = some ⟨ocNI, odNI, .func (PySem.W.fnOf "__init__" "InvalidSchema.__init__" (defArgs s_InvalidSchema___init__) (defBody s_InvalidSchema___init__) (defScope s_InvalidSchema___init__) .none kVNI dcNI pmNI anNI cdNI ctNI), slNI⟩)
    (cNI : PySem.W.codeIn K cdNI "InvalidSchema.__init__" = true)
    (kNI : PySem.W.keepIn K (.ref fNI) = true)
    {f1 : Addr} {od1 an1 : Option Addr} {sl1 : Array (Option Value)} {oc1 kV1 dc1 pm1 cd1 ct1 : Value}
    (a1 : PySem.W.nsIn K mainGlobals "is_name" = some (some (.ref f1))) (l1 : K.lookup f1 = some ⟨oc1, od1, .func (PySem.W.fnOf "is_name" "is_name" (defArgs s_is_name) (defBody s_is_name) (defScope s_is_name) .none kV1 dc1 pm1 an1 cd1 ct1), sl1⟩)
    (c1 : PySem.W.codeIn K cd1 "is_name" = true) (k1 : PySem.W.keepIn K (.ref f1) = true)
    {f2 : Addr} {od2 an2 : Option Addr} {sl2 : Array (Option Value)} {oc2 kV2 dc2 pm2 cd2 ct2 : Value}
    (a2 : PySem.W.nsIn K mainGlobals "is_tuple" = some (some (.ref f2))) (l2 : K.lookup f2 = some ⟨oc2, od2, .func (PySem.W.fnOf "is_tuple" "is_tuple" (defArgs s_is_tuple) (defBody s_is_tuple) (defScope s_is_tuple) .none kV2 dc2 pm2 an2 cd2 ct2), sl2⟩)
    (c2 : PySem.W.codeIn K cd2 "is_tuple" = true) (k2 : PySem.W.keepIn K (.ref f2) = true)
    {f3 : Addr} {od3 an3 : Option Addr} {sl3 : Array (Option Value)} {oc3 kV3 dc3 pm3 cd3 ct3 : Value}
    (a3 : PySem.W.nsIn K mainGlobals "is_ascending" = some (some (.ref f3))) (l3 : K.lookup f3 = some ⟨oc3, od3, .func (PySem.W.fnOf "is_ascending" "is_ascending" (defArgs s_is_ascending) (defBody s_is_ascending) (defScope s_is_ascending) .none kV3 dc3 pm3 an3 cd3 ct3), sl3⟩)
    (c3 : PySem.W.codeIn K cd3 "is_ascending" = true) (k3 : PySem.W.keepIn K (.ref f3) = true)
    {f4 : Addr} {od4 an4 : Option Addr} {sl4 : Array (Option Value)} {oc4 kV4 dc4 pm4 cd4 ct4 : Value}
    (a4 : PySem.W.nsIn K mainGlobals "_are_columns" = some (some (.ref f4))) (l4 : K.lookup f4 = some ⟨oc4, od4, .func (PySem.W.fnOf "_are_columns" "_are_columns" (defArgs s__are_columns) (defBody s__are_columns) (defScope s__are_columns) .none kV4 dc4 pm4 an4 cd4 ct4), sl4⟩)
    (c4 : PySem.W.codeIn K cd4 "_are_columns" = true) (k4 : PySem.W.keepIn K (.ref f4) = true)
    {f5 : Addr} {od5 an5 : Option Addr} {sl5 : Array (Option Value)} {oc5 kV5 dc5 pm5 cd5 ct5 : Value}
    (a5 : PySem.W.nsIn K mainGlobals "_are_some" = some (some (.ref f5))) (l5 : K.lookup f5 = some ⟨oc5, od5, .func (PySem.W.fnOf "_are_some" "_are_some" (defArgs s__are_some) (defBody s__are_some) (defScope s__are_some) .none kV5 dc5 pm5 an5 cd5 ct5), sl5⟩)
    (c5 : PySem.W.codeIn K cd5 "_are_some" = true) (k5 : PySem.W.keepIn K (.ref f5) = true)
    {f6 : Addr} {od6 an6 : Option Addr} {sl6 : Array (Option Value)} {oc6 kV6 dc6 pm6 cd6 ct6 : Value}
    (a6 : PySem.W.nsIn K mainGlobals "is_table" = some (some (.ref f6))) (l6 : K.lookup f6 = some ⟨oc6, od6, .func (PySem.W.fnOf "is_table" "is_table" (defArgs s_is_table) (defBody s_is_table) (defScope s_is_table) .none kV6 dc6 pm6 an6 cd6 ct6), sl6⟩)
    (c6 : PySem.W.codeIn K cd6 "is_table" = true) (k6 : PySem.W.keepIn K (.ref f6) = true)
    {f7 : Addr} {od7 an7 : Option Addr} {sl7 : Array (Option Value)} {oc7 kV7 dc7 pm7 cd7 ct7 : Value}
    (a7 : PySem.W.nsIn K mainGlobals "_law_deck" = some (some (.ref f7))) (l7 : K.lookup f7 = some ⟨oc7, od7, .func (PySem.W.fnOf "_law_deck" "_law_deck" (defArgs s_deck) (defBody s_deck) (defScope s_deck) .none kV7 dc7 pm7 an7 cd7 ct7), sl7⟩)
    (c7 : PySem.W.codeIn K cd7 "_law_deck" = true) (k7 : PySem.W.keepIn K (.ref f7) = true)
    {f8 : Addr} {od8 an8 : Option Addr} {sl8 : Array (Option Value)} {oc8 kV8 dc8 pm8 cd8 ct8 : Value}
    (a8 : PySem.W.nsIn K mainGlobals "_law_draw" = some (some (.ref f8))) (l8 : K.lookup f8 = some ⟨oc8, od8, .func (PySem.W.fnOf "_law_draw" "_law_draw" (defArgs s_draw) (defBody s_draw) (defScope s_draw) .none kV8 dc8 pm8 an8 cd8 ct8), sl8⟩)
    (c8 : PySem.W.codeIn K cd8 "_law_draw" = true) (k8 : PySem.W.keepIn K (.ref f8) = true)
    {f9 : Addr} {od9 an9 : Option Addr} {sl9 : Array (Option Value)} {oc9 kV9 dc9 pm9 cd9 ct9 : Value}
    (a9 : PySem.W.nsIn K mainGlobals "_law_pick" = some (some (.ref f9))) (l9 : K.lookup f9 = some ⟨oc9, od9, .func (PySem.W.fnOf "_law_pick" "_law_pick" (defArgs s_pick) (defBody s_pick) (defScope s_pick) .none kV9 dc9 pm9 an9 cd9 ct9), sl9⟩)
    (c9 : PySem.W.codeIn K cd9 "_law_pick" = true) (k9 : PySem.W.keepIn K (.ref f9) = true)
    {f10 : Addr} {od10 an10 : Option Addr} {sl10 : Array (Option Value)} {oc10 kV10 dc10 pm10 cd10 ct10 : Value}
    (a10 : PySem.W.nsIn K mainGlobals "_law_names" = some (some (.ref f10))) (l10 : K.lookup f10 = some ⟨oc10, od10, .func (PySem.W.fnOf "_law_names" "_law_names" (defArgs s_names) (defBody s_names) (defScope s_names) .none kV10 dc10 pm10 an10 cd10 ct10), sl10⟩)
    (c10 : PySem.W.codeIn K cd10 "_law_names" = true) (k10 : PySem.W.keepIn K (.ref f10) = true)
    {f11 : Addr} {od11 an11 : Option Addr} {sl11 : Array (Option Value)} {oc11 kV11 dc11 pm11 cd11 ct11 : Value}
    (a11 : PySem.W.nsIn K mainGlobals "_law_table" = some (some (.ref f11))) (l11 : K.lookup f11 = some ⟨oc11, od11, .func (PySem.W.fnOf "_law_table" "_law_table" (defArgs s_table) (defBody s_table) (defScope s_table) .none kV11 dc11 pm11 an11 cd11 ct11), sl11⟩)
    (c11 : PySem.W.codeIn K cd11 "_law_table" = true) (k11 : PySem.W.keepIn K (.ref f11) = true)
    {f12 : Addr} {od12 an12 : Option Addr} {sl12 : Array (Option Value)} {oc12 kV12 dc12 pm12 cd12 ct12 : Value}
    (a12 : PySem.W.nsIn K mainGlobals "_law_tables" = some (some (.ref f12))) (l12 : K.lookup f12 = some ⟨oc12, od12, .func (PySem.W.fnOf "_law_tables" "_law_tables" (defArgs s_tables) (defBody s_tables) (defScope s_tables) .none kV12 dc12 pm12 an12 cd12 ct12), sl12⟩)
    (c12 : PySem.W.codeIn K cd12 "_law_tables" = true) (k12 : PySem.W.keepIn K (.ref f12) = true)
    {f13 : Addr} {od13 an13 : Option Addr} {sl13 : Array (Option Value)} {oc13 kV13 dc13 pm13 cd13 ct13 : Value}
    (a13 : PySem.W.nsIn K mainGlobals "_law_schema" = some (some (.ref f13))) (l13 : K.lookup f13 = some ⟨oc13, od13, .func (PySem.W.fnOf "_law_schema" "_law_schema" (defArgs s_schema) (defBody s_schema) (defScope s_schema) .none kV13 dc13 pm13 an13 cd13 ct13), sl13⟩)
    (c13 : PySem.W.codeIn K cd13 "_law_schema" = true) (k13 : PySem.W.keepIn K (.ref f13) = true)
    {f14 : Addr} {od14 an14 : Option Addr} {sl14 : Array (Option Value)} {oc14 kV14 dc14 pm14 cd14 ct14 : Value}
    (a14 : PySem.W.nsIn K mainGlobals "_law_other" = some (some (.ref f14))) (l14 : K.lookup f14 = some ⟨oc14, od14, .func (PySem.W.fnOf "_law_other" "_law_other" (defArgs L.s_other) (defBody L.s_other) (defScope L.s_other) .none kV14 dc14 pm14 an14 cd14 ct14), sl14⟩)
    (c14 : PySem.W.codeIn K cd14 "_law_other" = true) (k14 : PySem.W.keepIn K (.ref f14) = true)
    {f15 : Addr} {od15 an15 : Option Addr} {sl15 : Array (Option Value)} {oc15 kV15 dc15 pm15 cd15 ct15 : Value}
    (a15 : PySem.W.nsIn K mainGlobals "_law_bent" = some (some (.ref f15))) (l15 : K.lookup f15 = some ⟨oc15, od15, .func (PySem.W.fnOf "_law_bent" "_law_bent" (defArgs L.s_bent) (defBody L.s_bent) (defScope L.s_bent) .none kV15 dc15 pm15 an15 cd15 ct15), sl15⟩)
    (c15 : PySem.W.codeIn K cd15 "_law_bent" = true) (k15 : PySem.W.keepIn K (.ref f15) = true)
    {f16 : Addr} {od16 an16 : Option Addr} {sl16 : Array (Option Value)} {oc16 kV16 dc16 pm16 cd16 ct16 : Value}
    (a16 : PySem.W.nsIn K mainGlobals "_law_is_name" = some (some (.ref f16))) (l16 : K.lookup f16 = some ⟨oc16, od16, .func (PySem.W.fnOf "_law_is_name" "_law_is_name" (defArgs L.s_is_name) (defBody L.s_is_name) (defScope L.s_is_name) .none kV16 dc16 pm16 an16 cd16 ct16), sl16⟩)
    (c16 : PySem.W.codeIn K cd16 "_law_is_name" = true) (k16 : PySem.W.keepIn K (.ref f16) = true)
    {f17 : Addr} {od17 an17 : Option Addr} {sl17 : Array (Option Value)} {oc17 kV17 dc17 pm17 cd17 ct17 : Value}
    (a17 : PySem.W.nsIn K mainGlobals "_law_are_some" = some (some (.ref f17))) (l17 : K.lookup f17 = some ⟨oc17, od17, .func (PySem.W.fnOf "_law_are_some" "_law_are_some" (defArgs L.s_are_some) (defBody L.s_are_some) (defScope L.s_are_some) .none kV17 dc17 pm17 an17 cd17 ct17), sl17⟩)
    (c17 : PySem.W.codeIn K cd17 "_law_are_some" = true) (k17 : PySem.W.keepIn K (.ref f17) = true)
    {f18 : Addr} {od18 an18 : Option Addr} {sl18 : Array (Option Value)} {oc18 kV18 dc18 pm18 cd18 ct18 : Value}
    (a18 : PySem.W.nsIn K mainGlobals "_law_is_table" = some (some (.ref f18))) (l18 : K.lookup f18 = some ⟨oc18, od18, .func (PySem.W.fnOf "_law_is_table" "_law_is_table" (defArgs L.s_is_table) (defBody L.s_is_table) (defScope L.s_is_table) .none kV18 dc18 pm18 an18 cd18 ct18), sl18⟩)
    (c18 : PySem.W.codeIn K cd18 "_law_is_table" = true) (k18 : PySem.W.keepIn K (.ref f18) = true)
    {f19 : Addr} {od19 an19 : Option Addr} {sl19 : Array (Option Value)} {oc19 kV19 dc19 pm19 cd19 ct19 : Value}
    (a19 : PySem.W.nsIn K mainGlobals "_law_due" = some (some (.ref f19))) (l19 : K.lookup f19 = some ⟨oc19, od19, .func (PySem.W.fnOf "_law_due" "_law_due" (defArgs L.s_due) (defBody L.s_due) (defScope L.s_due) .none kV19 dc19 pm19 an19 cd19 ct19), sl19⟩)
    (c19 : PySem.W.codeIn K cd19 "_law_due" = true) (k19 : PySem.W.keepIn K (.ref f19) = true)
    {f20 : Addr} {od20 an20 : Option Addr} {sl20 : Array (Option Value)} {oc20 kV20 dc20 pm20 cd20 ct20 : Value}
    (a20 : PySem.W.nsIn K mainGlobals "_law_heard" = some (some (.ref f20))) (l20 : K.lookup f20 = some ⟨oc20, od20, .func (PySem.W.fnOf "_law_heard" "_law_heard" (defArgs s_heard) (defBody s_heard) (defScope s_heard) .none kV20 dc20 pm20 an20 cd20 ct20), sl20⟩)
    (c20 : PySem.W.codeIn K cd20 "_law_heard" = true) (k20 : PySem.W.keepIn K (.ref f20) = true)
    {f21 : Addr} {od21 an21 : Option Addr} {sl21 : Array (Option Value)} {oc21 kV21 dc21 pm21 cd21 ct21 : Value}
    (a21 : PySem.W.nsIn K mainGlobals "_law_right" = some (some (.ref f21))) (l21 : K.lookup f21 = some ⟨oc21, od21, .func (PySem.W.fnOf "_law_right" "_law_right" (defArgs L.s_right) (defBody L.s_right) (defScope L.s_right) .none kV21 dc21 pm21 an21 cd21 ct21), sl21⟩)
    (c21 : PySem.W.codeIn K cd21 "_law_right" = true) (k21 : PySem.W.keepIn K (.ref f21) = true)
    {f22 : Addr} {od22 an22 : Option Addr} {sl22 : Array (Option Value)} {oc22 kV22 dc22 pm22 cd22 ct22 : Value}
    (a22 : PySem.W.nsIn K mainGlobals "_law_by_hand" = some (some (.ref f22))) (l22 : K.lookup f22 = some ⟨oc22, od22, .func (PySem.W.fnOf "_law_by_hand" "_law_by_hand" (defArgs L.s_by_hand) (defBody L.s_by_hand) (defScope L.s_by_hand) .none kV22 dc22 pm22 an22 cd22 ct22), sl22⟩)
    (c22 : PySem.W.codeIn K cd22 "_law_by_hand" = true) (k22 : PySem.W.keepIn K (.ref f22) = true)
    {f23 : Addr} {od23 an23 : Option Addr} {sl23 : Array (Option Value)} {oc23 kV23 dc23 pm23 cd23 ct23 : Value}
    (a23 : PySem.W.nsIn K mainGlobals "law" = some (some (.ref f23))) (l23 : K.lookup f23 = some ⟨oc23, od23, .func (PySem.W.fnOf "law" "law" (defArgs L.s_law) (defBody L.s_law) (defScope L.s_law) .none kV23 dc23 pm23 an23 cd23 ct23), sl23⟩)
    (c23 : PySem.W.codeIn K cd23 "law" = true) (k23 : PySem.W.keepIn K (.ref f23) = true)
    (z_isinstance : PySem.W.nsIn K mainGlobals "isinstance" = some none)
    (z_str : PySem.W.nsIn K mainGlobals "str" = some none)
    (z_tuple : PySem.W.nsIn K mainGlobals "tuple" = some none)
    (z_len : PySem.W.nsIn K mainGlobals "len" = some none)
    (z_all : PySem.W.nsIn K mainGlobals "all" = some none)
    (z_zip : PySem.W.nsIn K mainGlobals "zip" = some none)
    (z_set : PySem.W.nsIn K mainGlobals "set" = some none)
    (z_enumerate : PySem.W.nsIn K mainGlobals "enumerate" = some none)
    (z_sorted : PySem.W.nsIn K mainGlobals "sorted" = some none)
    (z_list : PySem.W.nsIn K mainGlobals "list" = some none)
    (z_range : PySem.W.nsIn K mainGlobals "range" = some none)
    (z_repr : PySem.W.nsIn K mainGlobals "repr" = some none)
    (z_int : PySem.W.nsIn K mainGlobals "int" = some none)
    (z_bool : PySem.W.nsIn K mainGlobals "bool" = some none) :
    ∃ fd : FuncData, (∀ (s : Shared) (v : Value), BindsTo s fd ⟨[v], []⟩ [("_law_script", v)]) ∧
      ∀ g0 : Heap, K.In g0 → g0.Ns mainGlobals mg → GOk l.prog w K mg g0 CX0 9 fa fd ["_law_script"] (L.spLaw K) := by
  have e := hfa.symm.trans (PySem.W.mg_of X G a23)
  cases e
  have O1 : One K := ⟨ob1, lk1, ck1⟩
  have vL := PySem.W.mg_of X G vL
  have vM := PySem.W.mg_of X G vM
  have gC := PySem.W.mg_of X G aC
  have F1 := fun_mk (st := s_is_name) l1 c1 k1
  have b1 := F1.binds (ps := ["thing"]) fun _ _ _ _ _ _ us hl => match us, hl with | [_], _ => rfl
  have F2 := fun_mk (st := s_is_tuple) l2 c2 k2
  have b2 := F2.binds (ps := ["thing", "size"]) fun _ _ _ _ _ _ us hl => match us, hl with | [_, _], _ => rfl
  have F3 := fun_mk (st := s_is_ascending) l3 c3 k3
  have b3 := F3.binds (ps := ["things"]) fun _ _ _ _ _ _ us hl => match us, hl with | [_], _ => rfl
  have F4 := fun_mk (st := s__are_columns) l4 c4 k4
  have b4 := F4.binds (ps := ["thing"]) fun _ _ _ _ _ _ us hl => match us, hl with | [_], _ => rfl
  have F5 := fun_mk (st := s__are_some) l5 c5 k5
  have b5 := F5.binds (ps := ["thing", "columns"]) fun _ _ _ _ _ _ us hl => match us, hl with | [_, _], _ => rfl
  have F6 := fun_mk (st := s_is_table) l6 c6 k6
  have b6 := F6.binds (ps := ["thing"]) fun _ _ _ _ _ _ us hl => match us, hl with | [_], _ => rfl
  have F7 := fun_mk (st := s_deck) l7 c7 k7
  have b7 := F7.binds (ps := ["_law_script"]) fun _ _ _ _ _ _ us hl => match us, hl with | [_], _ => rfl
  have F8 := fun_mk (st := s_draw) l8 c8 k8
  have b8 := F8.binds (ps := ["_law_deck_here", "_law_many"]) fun _ _ _ _ _ _ us hl => match us, hl with | [_, _], _ => rfl
  have F9 := fun_mk (st := s_pick) l9 c9 k9
  have b9 := F9.binds (ps := ["_law_deck_here", "_law_some"]) fun _ _ _ _ _ _ us hl => match us, hl with | [_, _], _ => rfl
  have F10 := fun_mk (st := s_names) l10 c10 k10
  have b10 := F10.binds (ps := ["_law_deck_here", "_law_many"]) fun _ _ _ _ _ _ us hl => match us, hl with | [_, _], _ => rfl
  have F11 := fun_mk (st := s_table) l11 c11 k11
  have b11 := F11.binds (ps := ["_law_deck_here", "_law_name"]) fun _ _ _ _ _ _ us hl => match us, hl with | [_, _], _ => rfl
  have F12 := fun_mk (st := s_tables) l12 c12 k12
  have b12 := F12.binds (ps := ["_law_deck_here", "_law_many"]) fun _ _ _ _ _ _ us hl => match us, hl with | [_, _], _ => rfl
  have F13 := fun_mk (st := s_schema) l13 c13 k13
  have b13 := F13.binds (ps := ["_law_some"]) fun _ _ _ _ _ _ us hl => match us, hl with | [_], _ => rfl
  have F14 := fun_mk (st := L.s_other) l14 c14 k14
  have b14 := F14.binds (ps := ["_law_deck_here", "_law_it"]) fun _ _ _ _ _ _ us hl => match us, hl with | [_, _], _ => rfl
  have F15 := fun_mk (st := L.s_bent) l15 c15 k15
  have b15 := F15.binds (ps := ["_law_deck_here", "_law_it"]) fun _ _ _ _ _ _ us hl => match us, hl with | [_, _], _ => rfl
  have F16 := fun_mk (st := L.s_is_name) l16 c16 k16
  have b16 := F16.binds (ps := ["_law_it"]) fun _ _ _ _ _ _ us hl => match us, hl with | [_], _ => rfl
  have F17 := fun_mk (st := L.s_are_some) l17 c17 k17
  have b17 := F17.binds (ps := ["_law_it", "_law_columns"]) fun _ _ _ _ _ _ us hl => match us, hl with | [_, _], _ => rfl
  have F18 := fun_mk (st := L.s_is_table) l18 c18 k18
  have b18 := F18.binds (ps := ["_law_it"]) fun _ _ _ _ _ _ us hl => match us, hl with | [_], _ => rfl
  have F19 := fun_mk (st := L.s_due) l19 c19 k19
  have b19 := F19.binds (ps := ["_law_some"]) fun _ _ _ _ _ _ us hl => match us, hl with | [_], _ => rfl
  have F20 := fun_mk (st := s_heard) l20 c20 k20
  have b20 := F20.binds (ps := ["_law_some"]) fun _ _ _ _ _ _ us hl => match us, hl with | [_], _ => rfl
  have F21 := fun_mk (st := L.s_right) l21 c21 k21
  have b21 := F21.binds (ps := ["_law_some"]) fun _ _ _ _ _ _ us hl => match us, hl with | [_], _ => rfl
  have F22 := fun_mk (st := L.s_by_hand) l22 c22 k22
  have b22 := F22.binds (ps := ["_law_one"]) fun _ _ _ _ _ _ us hl => match us, hl with | [_], _ => rfl
  have FI := fun_mk (st := s_Schema___init__) lI cI kI
  have Ftables := fun_mk (st := s_Schema_tables) ltables ctables ktables
  have FNI := fun_mk (st := s_InvalidSchema___init__) lNI cNI kNI
  have btables := Ftables.binds (ps := ["self"]) fun _ _ _ _ _ _ us hl => match us, hl with | [_], _ => rfl
  have bNI := FNI.binds (ps := ["self", "part"]) fun _ _ _ _ _ _ us hl => match us, hl with | [_, _], _ => rfl
  have y_isinstance := PySem.W.mg_none_of X G z_isinstance
  have y_str := PySem.W.mg_none_of X G z_str
  have y_tuple := PySem.W.mg_none_of X G z_tuple
  have y_len := PySem.W.mg_none_of X G z_len
  have y_all := PySem.W.mg_none_of X G z_all
  have y_zip := PySem.W.mg_none_of X G z_zip
  have y_set := PySem.W.mg_none_of X G z_set
  have y_enumerate := PySem.W.mg_none_of X G z_enumerate
  have y_sorted := PySem.W.mg_none_of X G z_sorted
  have y_list := PySem.W.mg_none_of X G z_list
  have y_range := PySem.W.mg_none_of X G z_range
  have y_repr := PySem.W.mg_none_of X G z_repr
  have y_int := PySem.W.mg_none_of X G z_int
  have y_bool := PySem.W.mg_none_of X G z_bool
  refine ⟨PySem.W.fnOf "law" "law" (defArgs L.s_law) (defBody L.s_law) (defScope L.s_law) .none kV23 dc23 pm23 an23 cd23 ct23, fun s v => .of_eq rfl, fun g0 _ _ => ?_⟩
  have tx : Txt K C := ⟨⟨pg, hd, po, sa⟩, nN, nT⟩
  have nt : BadTxt K N := ⟨⟨⟨_, _, _, _, _, _, _, _, _, _, _, _, _, _, _, xL, xb⟩, saN, exN, tyN, kN⟩, n1⟩
  have C1 : CalF l.prog w K mg g0 "is_name" 1 ["thing"] (spName) := ⟨_, _, ok_name F1 y_isinstance y_str y_len y_all vL, b1, PySem.W.mg_of X G a1, k1⟩
  have C2 : CalF l.prog w K mg g0 "is_tuple" 1 ["thing", "size"] (spTuple) := ⟨_, _, ok_tuple F2 y_isinstance y_tuple y_len, b2, PySem.W.mg_of X G a2, k2⟩
  have C3 : CalF l.prog w K mg g0 "is_ascending" 1 ["things"] (spAscB) := ⟨_, _, ok_ascB F3 y_zip y_all, b3, PySem.W.mg_of X G a3, k3⟩
  have C4 : CalF l.prog w K mg g0 "_are_columns" 2 ["thing"] (spCols) := ⟨_, _, ok_cols F4 C1 y_isinstance y_tuple y_len y_all y_set vM, b4, PySem.W.mg_of X G a4, k4⟩
  have C5 : CalF l.prog w K mg g0 "_are_some" 2 ["thing", "columns"] (spSome) := ⟨_, _, ok_some F5 C3 y_isinstance y_tuple y_all, b5, PySem.W.mg_of X G a5, k5⟩
  have C6 : CalF l.prog w K mg g0 "is_table" 3 ["thing"] (spTable) := ⟨_, _, ok_table F6 C1 C2 C4 C5, b6, PySem.W.mg_of X G a6, k6⟩
  have S_mk : Mk K C fI := ⟨mki, aI, iI, kC⟩
  have hb : ∀ (kV doc pm : Value) (an : Option Addr) (cdv ct : Value) (us rest : List Value), us.length = 1 →
      bindArgs (PySem.W.fnOf "__init__" "Schema.__init__" (defArgs s_Schema___init__) (defBody s_Schema___init__) (defScope s_Schema___init__) .none kV doc pm an cdv ct) ⟨us ++ rest, []⟩ = (newTuple rest >>= fun t => pure ((["self"] : List Str).zip us ++ [(("tables" : Str), t)])) := fun kV doc pm an cdv ct us rest hl => StX.bind_star1 (p1 := "self") (pv := "tables") (B := fun vs => bindArgs (PySem.W.fnOf "__init__" "Schema.__init__" (defArgs s_Schema___init__) (defBody s_Schema___init__) (defScope s_Schema___init__) .none kV doc pm an cdv ct) ⟨vs, []⟩) (fun _ => rfl) (fun _ _ _ => rfl) us rest hl
  have BB : Bads l.prog w K mg g0 N := ⟨nt, PySem.W.mg_of X G aN, ⟨_, _, aNI, tNI, ok_bad FNI nt, bNI⟩⟩
  have S_init : FnR l.prog w K mg g0 (L2.CX l.prog w) 4 fI (spMk C N) := ok_init FI tx BB C6 y_enumerate y_sorted y_tuple hb
  have R : RefB l.prog w K mg g0 C N := ⟨PySem.W.mg_of X G aN, seN, ⟨gaN, ggN, exN, hdN⟩, n1, tx, ⟨_, _, _, ⟨ptables, gtables, ttables, ⟨_, rtables⟩⟩, ok_tables Ftables tx, btables⟩, ⟨_, _, ok_schemaL F13 y_len gC S_mk S_init, b13, PySem.W.mg_of X G a13, k13⟩⟩
  have C7 : Cal l.prog w K mg g0 "_law_deck" 1 ["_law_script"] (spDeck K) := ⟨_, _, ok_deck F7 y_list, b7, PySem.W.mg_of X G a7, k7⟩
  have C8 : Cal l.prog w K mg g0 "_law_draw" 1 ["_law_deck_here", "_law_many"] (spDraw) := ⟨_, _, ok_draw F8, b8, PySem.W.mg_of X G a8, k8⟩
  have C9 : Cal l.prog w K mg g0 "_law_pick" 2 ["_law_deck_here", "_law_some"] (spPick) := ⟨_, _, ok_pick F9 y_len C8, b9, PySem.W.mg_of X G a9, k9⟩
  have C10 : Cal l.prog w K mg g0 "_law_names" 2 ["_law_deck_here", "_law_many"] (spNames) := ⟨_, _, ok_names F10 y_range y_len C8, b10, PySem.W.mg_of X G a10, k10⟩
  have C11 : Cal l.prog w K mg g0 "_law_table" 3 ["_law_deck_here", "_law_name"] (spTableL) := ⟨_, _, ok_tableL F11 y_range y_tuple y_sorted C8 C10, b11, PySem.W.mg_of X G a11, k11⟩
  have C12 : Cal l.prog w K mg g0 "_law_tables" 4 ["_law_deck_here", "_law_many"] (spTablesL) := ⟨_, _, ok_tablesL F12 C10 C11, b12, PySem.W.mg_of X G a12, k12⟩
  have C14 : Cal l.prog w K mg g0 "_law_other" 3 ["_law_deck_here", "_law_it"] (L.spOther) := ⟨_, _, L.ok_other F14 C8 C9 y_isinstance y_tuple y_str y_int y_bool y_len y_list, b14, PySem.W.mg_of X G a14, k14⟩
  have C15 : Cal l.prog w K mg g0 "_law_bent" 8 ["_law_deck_here", "_law_it"] (L.spBent 5) := ⟨_, _, L.ok_bent F15 b15 (PySem.W.mg_of X G a15) k15 C8 C14 y_isinstance y_tuple y_len 5, b15, PySem.W.mg_of X G a15, k15⟩
  have C16 : Cal l.prog w K mg g0 "_law_is_name" 1 ["_law_it"] (spName) := ⟨_, _, L.ok_nameL F16 y_isinstance y_str y_len, b16, PySem.W.mg_of X G a16, k16⟩
  have C17 : Cal l.prog w K mg g0 "_law_are_some" 2 ["_law_it", "_law_columns"] (L.spSomeL) := ⟨_, _, L.ok_someL F17 C16 y_isinstance y_tuple y_list y_sorted y_set, b17, PySem.W.mg_of X G a17, k17⟩
  have C18 : Cal l.prog w K mg g0 "_law_is_table" 3 ["_law_it"] (spTable) := ⟨_, _, L.ok_tableL F18 C16 C17 y_isinstance y_tuple y_len y_set, b18, PySem.W.mg_of X G a18, k18⟩
  have C19 : Cal l.prog w K mg g0 "_law_due" 4 ["_law_some"] (spHeard) := ⟨_, _, L.ok_due F19 C18 y_enumerate y_tuple y_sorted, b19, PySem.W.mg_of X G a19, k19⟩
  have C20 : Cal l.prog w K mg g0 "_law_heard" 7 ["_law_some"] (spHeard) := ⟨_, _, ok_heard F20 R, b20, PySem.W.mg_of X G a20, k20⟩
  have C21 : Cal l.prog w K mg g0 "_law_right" 8 ["_law_some"] (L.spRight) := ⟨_, _, L.ok_right F21 O1 C19 C20 y_repr, b21, PySem.W.mg_of X G a21, k21⟩
  have C22 : Cal l.prog w K mg g0 "_law_by_hand" 1 ["_law_one"] (L.spByHand) := ⟨_, _, L.ok_by_hand F22 y_list, b22, PySem.W.mg_of X G a22, k22⟩
  exact L.ok_law (fun_mk (st := L.s_law) l23 c23 k23) y_range y_len y_int C7 C8 C12 C22 C21 C15
end K01

open PySem PySem.W PyProof.Rows in
set_option maxRecDepth 100000 in
set_option maxHeartbeats 0 in
theorem PySem.Challenge.cw_ownwake_k01_schemas_of_any_values_holds : PySem.Challenge.rw_ownwake_k01_schemas_of_any_values.Holds := by
  w_on; o_law; x_head; (case hw => w_witness2)
  k_fill
  refine Own.walkG (l := PySem.Challenge.rw_ownwake_k01_schemas_of_any_values) (n := 63) (k := 9) (x := "_law_script") (sp := fun w => K01.L.spLaw _) rfl (by decide) rfl ⟨rfl, by decide, by decide⟩ (fun w h Y => PySem.W.kIn_of Y) ?F
    (fun _ _ a ns hl hO hS => ⟨a, ns, rfl, hS, hl, hO, fun _ => rfl⟩)
  case F =>
    intro w mg fa h KX G hmg
    refine' K01.all_mk KX G hmg ?lk1 ?ck1 ?aC ?aN ?vL ?vM ?pg ?hd ?po ?sa ?nN ?nT ?mki ?kC ?aI ?iI ?lI ?cI ?kI ?ptables ?gtables ?ttables ?rtables ?ltables ?ctables ?ktables ?xL ?xb ?saN ?exN ?tyN ?kN ?n1 ?gaN ?ggN ?hdN ?seN ?aNI ?tNI ?lNI ?cNI ?kNI ?a1 ?l1 ?c1 ?k1 ?a2 ?l2 ?c2 ?k2 ?a3 ?l3 ?c3 ?k3 ?a4 ?l4 ?c4 ?k4 ?a5 ?l5 ?c5 ?k5 ?a6 ?l6 ?c6 ?k6 ?a7 ?l7 ?c7 ?k7 ?a8 ?l8 ?c8 ?k8 ?a9 ?l9 ?c9 ?k9 ?a10 ?l10 ?c10 ?k10 ?a11 ?l11 ?c11 ?k11 ?a12 ?l12 ?c12 ?k12 ?a13 ?l13 ?c13 ?k13 ?a14 ?l14 ?c14 ?k14 ?a15 ?l15 ?c15 ?k15 ?a16 ?l16 ?c16 ?k16 ?a17 ?l17 ?c17 ?k17 ?a18 ?l18 ?c18 ?k18 ?a19 ?l19 ?c19 ?k19 ?a20 ?l20 ?c20 ?k20 ?a21 ?l21 ?c21 ?k21 ?a22 ?l22 ?c22 ?k22 ?a23 ?l23 ?c23 ?k23 ?z_isinstance ?z_str ?z_tuple ?z_len ?z_all ?z_zip ?z_set ?z_enumerate ?z_sorted ?z_list ?z_range ?z_repr ?z_int ?z_bool
    (case a1 => k_is)
    (case l1 => k_is)
    (case c1 => k_is)
    (case k1 => k_is)
    (case a2 => k_is)
    (case l2 => k_is)
    (case c2 => k_is)
    (case k2 => k_is)
    (case a3 => k_is)
    (case l3 => k_is)
    (case c3 => k_is)
    (case k3 => k_is)
    (case a4 => k_is)
    (case l4 => k_is)
    (case c4 => k_is)
    (case k4 => k_is)
    (case a5 => k_is)
    (case l5 => k_is)
    (case c5 => k_is)
    (case k5 => k_is)
    (case a6 => k_is)
    (case l6 => k_is)
    (case c6 => k_is)
    (case k6 => k_is)
    (case a7 => k_is)
    (case l7 => k_is)
    (case c7 => k_is)
    (case k7 => k_is)
    (case a8 => k_is)
    (case l8 => k_is)
    (case c8 => k_is)
    (case k8 => k_is)
    (case a9 => k_is)
    (case l9 => k_is)
    (case c9 => k_is)
    (case k9 => k_is)
    (case a10 => k_is)
    (case l10 => k_is)
    (case c10 => k_is)
    (case k10 => k_is)
    (case a11 => k_is)
    (case l11 => k_is)
    (case c11 => k_is)
    (case k11 => k_is)
    (case a12 => k_is)
    (case l12 => k_is)
    (case c12 => k_is)
    (case k12 => k_is)
    (case a13 => k_is)
    (case l13 => k_is)
    (case c13 => k_is)
    (case k13 => k_is)
    (case a14 => k_is)
    (case l14 => k_is)
    (case c14 => k_is)
    (case k14 => k_is)
    (case a15 => k_is)
    (case l15 => k_is)
    (case c15 => k_is)
    (case k15 => k_is)
    (case a16 => k_is)
    (case l16 => k_is)
    (case c16 => k_is)
    (case k16 => k_is)
    (case a17 => k_is)
    (case l17 => k_is)
    (case c17 => k_is)
    (case k17 => k_is)
    (case a18 => k_is)
    (case l18 => k_is)
    (case c18 => k_is)
    (case k18 => k_is)
    (case a19 => k_is)
    (case l19 => k_is)
    (case c19 => k_is)
    (case k19 => k_is)
    (case a20 => k_is)
    (case l20 => k_is)
    (case c20 => k_is)
    (case k20 => k_is)
    (case a21 => k_is)
    (case l21 => k_is)
    (case c21 => k_is)
    (case k21 => k_is)
    (case a22 => k_is)
    (case l22 => k_is)
    (case c22 => k_is)
    (case k22 => k_is)
    (case a23 => k_is)
    (case l23 => k_is)
    (case c23 => k_is)
    (case k23 => k_is)
    (case z_isinstance => k_is)
    (case z_str => k_is)
    (case z_tuple => k_is)
    (case z_len => k_is)
    (case z_all => k_is)
    (case z_zip => k_is)
    (case z_set => k_is)
    (case z_enumerate => k_is)
    (case z_sorted => k_is)
    (case z_list => k_is)
    (case z_range => k_is)
    (case z_repr => k_is)
    (case z_int => k_is)
    (case z_bool => k_is)
    (case lk1 => k_is)
    (case ck1 => rfl)
    (case aC => k_is)
    (case aN => k_is)
    (case vL => k_is)
    (case vM => k_is)
    (case pg => k_is)
    (case hd => k_is)
    (case po => k_is)
    (case sa => k_is)
    (case nN => k_is)
    (case nT => k_is)
    (case mki => k_is)
    (case kC => k_is)
    (case aI => k_is)
    (case iI => k_is)
    (case lI => k_is)
    (case cI => k_is)
    (case kI => k_is)
    (case ptables => k_is)
    (case gtables => k_is)
    (case ttables => k_is)
    (case rtables => k_is)
    (case ltables => k_is)
    (case ctables => k_is)
    (case ktables => k_is)
    (case xL => k_is)
    (case xb => first | decide +kernel | rfl)
    (case saN => k_is)
    (case exN => k_is)
    (case tyN => k_is)
    (case kN => k_is)
    (case n1 => k_is)
    (case gaN => k_is)
    (case ggN => k_is)
    (case hdN => k_is)
    (case seN => first | rfl | k_is)
    (case aNI => k_is)
    (case tNI => k_is)
    (case lNI => k_is)
    (case cNI => k_is)
    (case kNI => k_is)
