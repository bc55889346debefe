import PyProof.Rows.All
import Wide.All
import OpenK.AllK
import Wide.FinOn
import HandS.ForMost
import HandS.Exc
import HandS.ExcOwn
import HandS.TryOnly
import HandS.WordsExc
import HandS.IsInst
import HandS.TupAny
import HandS.Wide
import HandS.TryMany
import KE.DataCmp
import KE.SortData
import HandS.Deep
import HandS.TupSets
import HandS.Zip
import HandS.Strs
import HandS.SortInts
import PyProof.TupleOfSeq
import HandS.DictComp
import HandS.SetFor
import HandS.Conv
import PySem.Challenge.RW_looksfar_k13_made_greatest
set_option Elab.async false
set_option linter.all false
set_option maxRecDepth 100000
set_option maxHeartbeats 400000
/-! ### defs that are called where no repr runs around (guards known to be none) -/
namespace LG
open PySem PySem.Spec PyProof.Rows L2
/-- a def's promise, kept wherever no repr is under way -/
structure FnG (P : Program) (w : World) (K : PySem.W.Frag) (mg : Str → Option Value) (base : Heap) (k : Nat) (f : Addr) (fd : FuncData) (ps : List Str) (sp : Sp) : Prop where
  many : ∀ vs H Q E, sp vs H Q E → vs.length = ps.length
  goes : ∀ (A : Around) (outer : List Env) (s : Shared) (H : Hp) (us : List Value) (vs : List V) (Q : VK) (E : XK), A.guards = some [] → Room k A → Env0 P w K mg base A outer s H →
    BindsTo s fd ⟨us, []⟩ (ps.zip us) → Vals vs us → sp vs H Q E → codeAny (model P w) A (.call (.ref f) ⟨us, []⟩) (CR CX0 outer P w H s Q E) s
section
variable {P : Program} {w : World} {K : PySem.W.Frag} {mg : Str → Option Value} {base : Heap}
theorem FnG.of {k : Nat} {f : Addr} {fd : FuncData} {ps : List Str} {sp : Sp} (F : FnOk P w K mg base CX0 k f fd ps sp) : FnG P w K mg base k f fd ps sp :=
  ⟨F.len, fun A outer s H us vs Q E _ hr e0 hb r h => F.run A outer s H ⟨us, []⟩ us vs Q E hr e0 hb r h⟩
theorem FnG.more {j k : Nat} {f : Addr} {fd : FuncData} {ps : List Str} {sp : Sp} (F : FnG P w K mg base j f fd ps sp) (h : j ≤ k) : FnG P w K mg base k f fd ps sp :=
  ⟨F.many, fun A outer s H us vs Q E hg hr => F.goes A outer s H us vs Q E hg (hr.mono h)⟩
theorem FnG.by {x qual : Str} {st : Stmt} {f : Addr} {fd : FuncData} {N ps : List Str} {k : Nat} {sp : Sp} (F : Fun K x qual st f fd) (S : FnScope N ps (defScope st)) (many : ∀ vs H Q E, sp vs H Q E → vs.length = ps.length)
    (body : ∀ (cdv : Value) (A : Around) (outer : List Env) (s : Shared) (H : Hp) (vs : List V) (Q : VK) (E : XK), (A.deeper (envOfC qual (defScope st) s.heap.objs.size f cdv)).guards = some [] →
      Room k (A.deeper (envOfC qual (defScope st) s.heap.objs.size f cdv)) → sp vs H Q E →
      ∃ t, PSs (cxOf CX0 P w K mg base N qual (defScope st) f cdv A outer s H E).nox (defBody st) t ∧ t { nx := fun _ H' => Q .non H', rt := Q } (start N vs) H) : FnG P w K mg base (k + 1) f fd ps sp := by
  obtain ⟨_, _, _, _, _, _, cdv, _, _, rfl, lk, code⟩ := F.ex
  refine ⟨many, fun A outer s H us vs Q E guard room e0 bind rel hsp => ?_⟩
  have inK : K.In s.heap := e0.mod.kin.keeps fun b o e => (e0.bs b o e).1
  have noLim : s.heap.NoLimit := e0.mod.nolimit.keeps fun b o e => (e0.bs b o e).1
  obtain ⟨t, run, start⟩ := body cdv A outer s H vs Q E guard (room.deeper _) hsp
  refine codeAny_call_function room.depth (inK _ _ lk) rfl S.co S.gen rfl (PySem.W.codeRec_of inK code) (bind _ _ _ _ ?_)
  refine wpAny_newFunctionEnv_cells S.kind (fun y hy => ?_) fun env he s1 made => ?_
  · rcases S.par y.1 (List.of_mem_zip (show (y.1, y.2) ∈ ps.zip us from hy)).1 with q | q
    · exact Or.inl q
    · exact Or.inr ⟨q, PySem.W.cellsFrom_some _ _ _ (Or.inl q)⟩
  subst he
  refine ⟨noLim.keeps made.toInCall.keep, codeAny_func ?_⟩
  have inv := inv_start (CX := CX0) (E := E) S room.hd e0 (many _ _ _ _ hsp) rel made
  refine wpAny_mono (run.nox.run [] s1 (L2.start N vs) H _ inv start) (fun flow s' got => ?_) fun _ _ bad => bad
  cases flow with
  | ret u =>
    obtain ⟨v, _, H', J, rv, q⟩ := got
    exact ⟨v, H', J.os, J.bare, J.base, J.hok, rv, q⟩
  | next =>
    obtain ⟨_, H', J, q⟩ := got
    exact ⟨V.non, H', J.os, J.bare, J.base, J.hok, rfl, q⟩
  | brk =>
    obtain ⟨_, _, _, no⟩ := got
    exact no.elim
  | cont =>
    obtain ⟨_, _, _, no⟩ := got
    exact no.elim
end
section
variable {X : Cx} {k : Nat} {f : Addr} {fd : FuncData} {ps : List Str} {sp : Sp} {x : Str} {p pos : Pos} {e : Expr} {es : List Expr} {t : TA}
/-- f(e, ..) of such a def -/
theorem pe_callG (F : FnG X.prog X.w X.K X.mg X.base k f fd ps sp) (guard : X.A.guards = some []) (room : Room k X.A) (hg : Gl X x) (hm : X.mg x = some (.ref f)) (hk : PySem.W.keepIn X.K (.ref f) = true) (hb : Binds X.K fd ps [])
    (ha : PA X (e :: es) t) (hdb : (x == ("__debug__" : Str)) = false := by decide) (he : starEach (e :: es) X.env = (false, eval e X.env) :: starEach es X.env := by rfl) (hpl : (backTo pos (starEach es X.env)).any (·.1) = false := by rfl) :
    PE X (.Call (.Name x p) (e :: es) [] pos) (tCall sp [] E0 t) := by
  constructor
  intro pins s σ H Q inv want
  refine wpAny_Call_Name_kw (ld_glob inv hg hm ?_ hdb)
  refine PySem.W.callWith_K (h₀ := X.base) inv.ok.mod.kin hk (thn (ha.run pos pins s σ H _ inv want) fun us s1 got => ?_) he hpl
  obtain ⟨vs, H1, inv1, rel, q⟩ := got
  rw [List.append_nil] at q
  have many : us.length = ps.length := by rw [← rel.length]; exact F.many _ _ _ _ q
  have bind := hb s1 us inv1.kIn (by rw [List.append_nil]; exact many)
  rw [List.append_nil] at bind
  refine ⟨inv1.kIn, wpAny_call (codeAny_mono (F.goes X.A X.stack s1 H1 us vs Q E0 guard room inv1.env0 bind rel q) fun r s' end_ => ?_)⟩
  cases r with
  | error _ => exact False.elim end_
  | ok flow =>
    cases flow with
    | ret _ => exact inv1.after end_
    | next => exact False.elim end_
    | brk => exact False.elim end_
    | cont => exact False.elim end_
end
/-! ### repr of data -/
section
variable {X : Cx}
/-- repr(v), v data of any depth: its text -/
def rRep (K : PySem.W.Frag) : List V → Hp → VK → Prop := fun xs H Q => ∃ (v : V) (d : PyData), xs = [v] ∧ Dp K H v d ∧ d.showable = true ∧ d.depth ≤ 60 ∧ d.shown.length ≤ sizeLine ∧ Q (.str d.shown) H
theorem Dp.noDict {K : PySem.W.Frag} {H : Hp} : ∀ (d : PyData) (v : V), Dp K H v d → d.hasDict = false
  | .none, _, _ => by simp only [PyData.hasDict]
  | .bool _, _, _ => by simp only [PyData.hasDict]
  | .int _, _, _ => by simp only [PyData.hasDict]
  | .str _, _, _ => by simp only [PyData.hasDict]
  | .dict _, _, h => by cases h
  | .list ds, _, h => by
    cases h with
    | lst _ ha =>
      simp only [PyData.hasDict]
      exact go ds _ ha
  | .tuple ds, _, h => by
    cases h with
    | tup _ ha =>
      simp only [PyData.hasDict]
      exact go ds _ ha
where go {K : PySem.W.Frag} {H : Hp} : ∀ (ds : List PyData) (vs : List V), DpAll K H vs ds → PyData.hasDictAll ds = false
  | [], _, _ => by simp only [PyData.hasDictAll]
  | d :: ds, _, h => by
    cases h with
    | cons h1 h2 => simp only [PyData.hasDictAll, Dp.noDict d _ h1, go ds _ h2, Bool.or_self]
theorem call_rep (guard : X.A.guards = some []) (room : X.A.units + 64 < cLine) : CallR X (.builtin "repr") (rRep X.K) := by
  intro pins s σ H xs us Q inv rel want
  obtain ⟨v, d, rfl, hd, hs, hn, hz, q⟩ := want
  cases rel with
  | cons r0 rr =>
  rename_i u us'
  cases rr
  obtain ⟨as, reads⟩ := Dp.reads inv d v u hd r0
  have dict := PyData.noDict_hsm (as := as) (Dp.noDict d v hd)
  cases hd with
  | non =>
    cases r0
    exact PySem.P.repr_of_none ⟨.str _, H, inv.tok _, ⟨_, rfl⟩, by simpa only [PyData.shown] using q⟩
  | bl b =>
    cases r0
    refine PySem.P.repr_of_bool ⟨.str _, H, inv.tok _, ⟨_, rfl⟩, by simpa only [PyData.shown] using q⟩
  | int i =>
    obtain ⟨t, rfl⟩ := r0
    exact PySem.P.repr_of_int (by simpa [PyData.showable] using hs) ⟨.str _, H, inv.tok _, ⟨_, rfl⟩, by simpa only [PyData.shown] using q⟩
  | str x =>
    obtain ⟨t, rfl⟩ := r0
    exact PySem.P.repr_of_str ⟨.str _, H, inv.tok _, ⟨_, rfl⟩, by simpa only [PyData.shown] using q⟩ (by simpa only [PyData.shown] using hz)
  | lst h1 h2 =>
    cases r0
    exact repr_of_reads' reads hs dict guard (by omega) (fun _ _ z => z) (fun h' u' tk keep => ⟨.str _, H, inv.kept keep, ⟨_, rfl⟩, q⟩) hz
  | tup h1 h2 =>
    cases r0
    exact repr_of_reads' reads hs dict guard (by omega) (fun _ _ z => z) (fun h' u' tk keep => ⟨.str _, H, inv.kept keep, ⟨_, rfl⟩, q⟩) hz
end
end LG
/-! ### the end: the law's promise, at the heap behind the top -/
namespace LG
open PySem PySem.W PySem.Spec PyProof.Rows L2
section
variable {P : Program} {w : World} {K : PySem.W.Frag} {mg mb : Str → Option Value} {k : Nat} {fa a : Addr} {fd : FuncData} {x : Str} {sp : Sp} {s : Shared} {vs : List Value} {ns : List Int}
/-- the call from an abstract heap that tracks at most the script -/
theorem end_from (inK : K.In s.heap) (mains : s.heap.Ns mainGlobals mg) (blts : s.heap.Ns builtinsNs mb) (boot : ∀ y : Str, y ≠ "__name__" → mb y = bootBuiltins y) (noLim : s.heap.NoLimit) (gens : s.gens = #[])
    (obj : s.heap.get? a = some { cls := .type "list", data := .seq vs.toArray }) (room : Room k callerA) (goesF : ∀ base : Heap, K.In base → base.Ns mainGlobals mg → FnG P w K mg base k fa fd [x] sp)
    (bind : ∀ (s : Shared) (u : Value), BindsTo s fd ⟨[u], []⟩ [(x, u)]) (H : Hp) (only : Only H) (held : HOk P w H s.heap) (alone : ∀ b, H b ≠ none → b = a) (away : H a ≠ none → K.lookup a = none)
    (want : sp [.ref a] H (fun v _ => v = .bl true) E0) :
    codeAny (model P w) callerA (.call (.ref fa) ⟨[.ref a], []⟩) (fun r s' => r = .ok (.ret (.bool true)) ∧ OldK s.heap s'.heap ∧ s'.os = s.os ∧ AllBare s'.gens) s := by
  have free : ∀ {b : Addr} {o : Obj}, s.heap.get? b = some o → (b = a → o ≠ { cls := .type "list", data := .seq vs.toArray }) → H b = none := fun {b o} e far => by
    cases q : H b with
    | none => rfl
    | some u =>
      have here : b = a := alone b (by rw [q]; exact nofun)
      refine absurd ?_ (far here)
      rw [here, obj] at e
      exact (Option.some.inj e).symm
  have space : ∀ {b : Addr} {m : Str → Option Value}, s.heap.Ns b m → (hidT s.heap H).Ns b m := fun {b m} ⟨o, es, ep, e, d, more⟩ =>
    ⟨o, es, ep, hidT_get e (free e fun _ same => by rw [same] at d; exact nomatch d), d, more⟩
  have baseK : K.In (hidT s.heap H) := fun b o e => hidT_get (inK b o e) (by
    cases q : H b with
    | none => rfl
    | some u =>
      have here : b = a := alone b (by rw [q]; exact nofun)
      have no := away (by rw [← here, q]; exact nofun)
      rw [here, no] at e
      exact nomatch e)
  have lim : (hidT s.heap H).NoLimit := by
    obtain ⟨mc, h1, h2⟩ := noLim
    exact ⟨mc, space h1, h2⟩
  have modu : Mod K mg (hidT s.heap H) := ⟨baseK, space mains, ⟨mb, space blts, boot⟩, lim⟩
  have e0 : Env0 P w K mg (hidT s.heap H) callerA [] s H := ⟨rfl, modu, fun _ _ e => of_hidT e, Nat.le_of_eq (hidT_size _ _), trivial, (fun _ hb => absurd (show _ ∈ ([] : List Addr) from hb) List.not_mem_nil), held, .of_eq gens⟩
  refine codeAny_mono ((goesF _ baseK (space mains)).goes callerA [] s H [.ref a] [.ref a] _ E0 rfl room e0 (bind s (.ref a)) (.cons rfl .nil) want) fun r s' got => ?_
  cases r with
  | error _ => exact False.elim got
  | ok flow =>
  cases flow with
  | next => exact False.elim got
  | brk => exact False.elim got
  | cont => exact False.elim got
  | ret u =>
    obtain ⟨v, H', sameOs, bare, un, held', rel, yes⟩ := got
    have yes' : v = .bl true := yes
    subst yes'
    obtain rfl : u = Value.bool true := rel
    refine ⟨rfl, OldK.of_keep fun b o e => ?_, sameOs, bare⟩
    rcases only b with free | ⟨ob, xs, fz⟩
    · exact un.keep b o e free (fun z => nomatch z) (fun z => nomatch z)
    · obtain ⟨e1, _⟩ := held b _ fz
      obtain ⟨e2, _⟩ := held' b _ (un.frzs b ob _ fz)
      rw [e2, ← e1, e]
/-- .. from the script as it lies -/
theorem end_call (inK : K.In s.heap) (mains : s.heap.Ns mainGlobals mg) (blts : s.heap.Ns builtinsNs mb) (boot : ∀ y : Str, y ≠ "__name__" → mb y = bootBuiltins y) (noLim : s.heap.NoLimit) (gens : s.gens = #[])
    (obj : s.heap.get? a = some { cls := .type "list", data := .seq vs.toArray }) (numbs : PyProof.Rows.IntsAre vs ns) (small : ns.length ≤ sizeLine) (room : Room k callerA)
    (goesF : ∀ base : Heap, K.In base → base.Ns mainGlobals mg → FnG P w K mg base k fa fd [x] sp) (bind : ∀ (s : Shared) (u : Value), BindsTo s fd ⟨[u], []⟩ [(x, u)])
    (want : ∀ H : Hp, Only H → SqL K H a (ns.map V.int) → sp [.ref a] H (fun v _ => v = .bl true) E0) :
    codeAny (model P w) callerA (.call (.ref fa) ⟨[.ref a], []⟩) (fun r s' => r = .ok (.ret (.bool true)) ∧ OldK s.heap s'.heap ∧ s'.os = s.os ∧ AllBare s'.gens) s := by
  have rel := vals_ints numbs
  cases hk : K.lookup a with
  | some o =>
    have e := inK a o hk
    rw [obj] at e
    obtain rfl := Option.some.inj e
    have only : Only fun _ => none := fun _ => Or.inl rfl
    have held : HOk P w (fun _ => none) s.heap := fun _ _ z => nomatch z
    refine end_from inK mains blts boot noLim gens obj room goesF bind (fun _ => none) only held (fun _ z => absurd rfl z) (fun z => absurd rfl z) (want _ only ?_)
    exact Or.inr ⟨_, vs.toArray, _, hk, rfl, rfl, rfl, by rw [List.size_toArray, numbs.length]; exact small, by simpa using rel⟩
  | none =>
    let one : Hp := upd (fun _ => none) a (.frz { cls := .type "list", data := .seq vs.toArray } (.lst (ns.map V.int)))
    have at_a : one a = some (.frz { cls := .type "list", data := .seq vs.toArray } (.lst (ns.map V.int))) := upd_same
    have off_a : ∀ b, b ≠ a → one b = none := fun b hb => upd_ne hb
    have only : Only one := fun b => by
      by_cases hb : b = a
      · subst hb
        exact Or.inr ⟨_, _, at_a⟩
      · exact Or.inl (off_a b hb)
    have held : HOk P w one s.heap := fun b u z => by
      by_cases hb : b = a
      · subst hb
        rw [at_a] at z
        obtain rfl := Option.some.inj z
        exact ⟨obj, by rw [List.length_map]; exact small, vs, _, rel, obj⟩
      · rw [off_a b hb] at z
        exact nomatch z
    exact end_from inK mains blts boot noLim gens obj room goesF bind one only held (fun b z => Classical.byContradiction fun hb => z (off_a b hb)) (fun _ => hk) (want _ only (.inl (.inr ⟨_, at_a⟩)))
end
/-- what is left of the statement behind the head -/
theorem walk_G {l : PySem.W.OpenLaw} {n k : Nat} {q : Program} {loose : List Str} {XP : (Str → Option Value) → Heap → Prop} {YP : World → Heap → Prop} {d : DefRec} {K : Params → PySem.W.Frag} {sp : PySem.W.Frag → Sp} {x : Str}
    (hn : l.most = some n) (small : n ≤ sizeLine) (plain : d.params.defaults = []) (room : Room k callerA) (hY : ∀ (w : World) (h : Heap), YP w h → (K w.params).In h)
    (F : ∀ (w : World) (mg : Str → Option Value) (fa : Addr) (h : Heap), (K w.params).In h → h.Ns mainGlobals mg → mg d.name = some (.ref fa) →
      ∃ fd : FuncData, (∀ (s : Shared) (u : Value), BindsTo s fd ⟨[u], []⟩ [(x, u)]) ∧ ∀ base : Heap, (K w.params).In base → base.Ns mainGlobals mg → FnG l.prog w (K w.params) mg base k fa fd [x] (sp (K w.params)))
    (want : ∀ (K : PySem.W.Frag) (H : Hp) (a : Addr) (ns : List Int), ns.length ≤ n → Only H → SqL K H a (ns.map V.int) → sp K [.ref a] H (fun v _ => v = .bl true) E0) :
    PySem.W.WalkO q loose XP YP l.row.toRowW d [] (fun f vs => PySem.call f vs) := by
  refine Att.attach_call hn plain fun w s0 s1 mg mb fa o pm cd doc a vs ns ground told ho hd hcd hmg obj numbs many gens => ?_
  have inK := hY w _ told
  obtain ⟨fd, bind, goesF⟩ := F w mg fa _ inK ground.T.g hmg
  exact end_call inK ground.T.g ground.T.b ground.T.builtins ground.T.nolimit gens obj numbs (Nat.le_trans many small) room goesF bind fun H only held => want (K w.params) H a ns many only held
end LG
/-! ### sizes of data, data of tuples, heaps -/
namespace LG
open PySem PySem.Spec PyProof.Rows L2
/-- data whose text is short: at most m parts, h deep -/
def Sized (m h : Nat) (d : PyData) : Prop := d.leavesShort 40 = true ∧ d.showable = true ∧ d.depth ≤ h ∧ d.bulk ≤ m
theorem Sized.more {m m' h h' : Nat} {d : PyData} (s : Sized m h d) (hm : m ≤ m') (hh : h ≤ h') : Sized m' h' d := ⟨s.1, s.2.1, Nat.le_trans s.2.2.1 hh, Nat.le_trans s.2.2.2 hm⟩
theorem sized_all {m h : Nat} : ∀ {ds : List PyData}, (∀ d ∈ ds, Sized m h d) → PyData.leavesShortAll 40 ds = true ∧ PyData.showableAll ds = true ∧ PyData.depthAll ds ≤ h ∧ PyData.bulkAll ds ≤ ds.length * (m + 1)
  | [], _ => ⟨by simp only [PyData.leavesShortAll], by simp only [PyData.showableAll], by simp only [PyData.depthAll]; omega, by simp only [PyData.bulkAll]; omega⟩
  | d :: ds, hd => by
    obtain ⟨a1, a2, a3, a4⟩ := hd d List.mem_cons_self
    obtain ⟨b1, b2, b3, b4⟩ := sized_all fun e he => hd e (List.mem_cons_of_mem _ he)
    refine ⟨by simp only [PyData.leavesShortAll, a1, b1, Bool.and_self], by simp only [PyData.showableAll, a2, b2, Bool.and_self], by simp only [PyData.depthAll]; omega, ?_⟩
    simp only [PyData.bulkAll, List.length_cons, Nat.add_mul, Nat.one_mul] at b4 ⊢
    omega
theorem sized_tup {m h : Nat} {ds : List PyData} (hd : ∀ d ∈ ds, Sized m h d) : Sized (ds.length * (m + 1)) (h + 1) (.tuple ds) := by
  obtain ⟨a1, a2, a3, a4⟩ := sized_all hd
  exact ⟨by simpa only [PyData.leavesShort] using a1, by simpa only [PyData.showable] using a2, by simp only [PyData.depth]; omega, by simpa only [PyData.bulk] using a4⟩
theorem sized_lst {m h : Nat} {ds : List PyData} (hd : ∀ d ∈ ds, Sized m h d) : Sized (ds.length * (m + 1)) (h + 1) (.list ds) := by
  obtain ⟨a1, a2, a3, a4⟩ := sized_all hd
  exact ⟨by simpa only [PyData.leavesShort] using a1, by simpa only [PyData.showable] using a2, by simp only [PyData.depth]; omega, by simpa only [PyData.bulk] using a4⟩
theorem sized_non : Sized 0 0 .none := ⟨by simp only [PyData.leavesShort], by simp only [PyData.showable], by simp only [PyData.depth]; omega, by simp only [PyData.bulk]; omega⟩
theorem sized_bl (b : Bool) : Sized 0 0 (.bool b) := ⟨by simp only [PyData.leavesShort], by simp only [PyData.showable], by simp only [PyData.depth]; omega, by simp only [PyData.bulk]; omega⟩
/-- an int of few digits -/
theorem sized_int {i : Int} (h : i.natAbs < 10 ^ 39) : Sized 0 0 (.int i) := by
  have short : (PyData.shown (.int i)).length ≤ 40 := by
    simp only [PyData.shown]
    show (Str.ofString (toString i)).length ≤ 40
    rw [PySem.ofString_length]
    exact int_text_length_le10 (by decide) h
  refine ⟨by simpa only [PyData.leavesShort, decide_eq_true_eq] using short, ?_, by simp only [PyData.depth]; omega, by simp only [PyData.bulk]; omega⟩
  simp only [PyData.showable, decide_eq_true_eq]
  by_cases z : i.natAbs = 0
  · rw [z]; decide
  · exact Nat.lt_of_lt_of_le ((Nat.log2_lt z).mpr (Nat.lt_of_lt_of_le h (by decide : 10 ^ 39 ≤ 2 ^ 130))) (by decide)
/-- what repr asks -/
theorem Sized.rep {m h : Nat} {d : PyData} (s : Sized m h d) (hm : m ≤ 390000) (hh : h ≤ 60) : d.showable = true ∧ d.depth ≤ 60 ∧ d.shown.length ≤ sizeLine := by
  refine ⟨s.2.1, Nat.le_trans s.2.2.1 hh, ?_⟩
  have z := PyData.shown_le_bulk 40 (by decide) d s.1
  have z2 := s.2.2.2
  rw [sizeLine_eq]
  omega
/-- tuples stay -/
def TupsStay (H H' : Hp) : Prop := ∀ b o, (∃ xs, o = .tup xs) ∨ (∃ ob xs, o = .frz ob (.tup xs)) → H b = some o → H' b = some o
theorem TupsStay.trans {H H1 H2 : Hp} (a : TupsStay H H1) (b : TupsStay H1 H2) : TupsStay H H2 := fun c o h e => b c o h (a c o h e)
theorem TupsStay.refl (H : Hp) : TupsStay H H := fun _ _ _ e => e
theorem _root_.L2.Same.tups {H H' : Hp} (s : Same H H') : TupsStay H H' := fun b o _ e => s b o e
theorem TupsStay.seq {K : PySem.W.Frag} {H H' : Hp} {a : Addr} {xs : List V} (t : TupsStay H H') (h : SqT K H a xs) : SqT K H' a xs := by
  rcases h with (h | ⟨o, h⟩) | h
  · exact .inl (.inl (t _ _ (.inl ⟨_, rfl⟩) h))
  · exact .inl (.inr ⟨o, t _ _ (.inr ⟨_, _, rfl⟩) h⟩)
  · exact .inr h
theorem _root_.L2.Same.seqT {K : PySem.W.Frag} {H H' : Hp} {a : Addr} {xs : List V} (s : Same H H') (h : SqT K H a xs) : SqT K H' a xs := (Same.tups s).seq h
theorem tups_lst {H : Hp} {p : Addr} {xs ys : List V} (h : H p = some (.lst xs)) : TupsStay H (upd H p (.lst ys)) := fun b o hk e => by
  rw [upd_ne (ne_of e h ?_)]
  · exact e
  · rcases hk with ⟨_, rfl⟩ | ⟨_, _, rfl⟩ <;> exact nofun
theorem same_new {H : Hp} {p : Addr} (h : H p = none) (o : HO) : Same H (upd H p o) := fun b u e => by
  rw [upd_ne (ne_of_none e h)]
  exact e
/-- a list that was made since changes -/
theorem same_own {H H' : Hp} {p : Addr} (s : Same H H') (h : H p = none) (o : HO) : Same H (upd H' p o) := fun b u e => by
  rw [upd_ne (ne_of_none e h)]
  exact s b u e
mutual
/-- data without lists -/
inductive Dt (K : PySem.W.Frag) (H : Hp) : V → PyData → Prop
  | non : Dt K H .non .none
  | bl (b : Bool) : Dt K H (.bl b) (.bool b)
  | int (i : Int) : Dt K H (.int i) (.int i)
  | str (x : Str) : Dt K H (.str x) (.str x)
  | tup {a : Addr} {xs : List V} {ds : List PyData} : SqT K H a xs → DtAll K H xs ds → Dt K H (.ref a) (.tuple ds)
inductive DtAll (K : PySem.W.Frag) (H : Hp) : List V → List PyData → Prop
  | nil : DtAll K H [] []
  | cons {v : V} {vs : List V} {d : PyData} {ds : List PyData} : Dt K H v d → DtAll K H vs ds → DtAll K H (v :: vs) (d :: ds)
end
section
variable {K : PySem.W.Frag} {H H' : Hp}
mutual
theorem Dt.dp : ∀ {v : V} {d : PyData}, Dt K H v d → Dp K H v d
  | _, _, .non => .non
  | _, _, .bl b => .bl b
  | _, _, .int i => .int i
  | _, _, .str x => .str x
  | _, _, .tup h a => .tup h a.dp
theorem DtAll.dp : ∀ {vs : List V} {ds : List PyData}, DtAll K H vs ds → DpAll K H vs ds
  | _, _, .nil => .nil
  | _, _, .cons h a => .cons h.dp a.dp
end
mutual
theorem Dt.stay (t : TupsStay H H') : ∀ {v : V} {d : PyData}, Dt K H v d → Dt K H' v d
  | _, _, .non => .non
  | _, _, .bl b => .bl b
  | _, _, .int i => .int i
  | _, _, .str x => .str x
  | _, _, .tup h a => .tup (t.seq h) (a.stay t)
theorem DtAll.stay (t : TupsStay H H') : ∀ {vs : List V} {ds : List PyData}, DtAll K H vs ds → DtAll K H' vs ds
  | _, _, .nil => .nil
  | _, _, .cons h a => .cons (h.stay t) (a.stay t)
end
theorem DtAll.len : ∀ {vs : List V} {ds : List PyData}, DtAll K H vs ds → vs.length = ds.length
  | _, _, .nil => rfl
  | _, _, .cons _ a => by rw [List.length_cons, List.length_cons, a.len]
theorem DtAll.at : ∀ {vs : List V} {ds : List PyData} {i : Nat} {d : PyData}, DtAll K H vs ds → ds[i]? = some d → ∃ v, vs[i]? = some v ∧ Dt K H v d
  | _, _, _, _, .nil, e => by simp at e
  | _, _, 0, _, .cons h _, e => by simp at e; subst e; exact ⟨_, rfl, h⟩
  | _, _, i + 1, d, .cons _ a, e => by simpa using a.at (i := i) (by simpa using e)
theorem DtAll.of : ∀ {vs : List V} {ds : List PyData} {i : Nat} {v : V}, DtAll K H vs ds → vs[i]? = some v → ∃ d, ds[i]? = some d ∧ Dt K H v d
  | _, _, _, _, .nil, e => by simp at e
  | _, _, 0, _, .cons h _, e => by simp at e; subst e; exact ⟨_, rfl, h⟩
  | _, _, i + 1, d, .cons _ a, e => by simpa using a.of (i := i) (by simpa using e)
theorem DtAll.app : ∀ {vs ws : List V} {ds es : List PyData}, DtAll K H vs ds → DtAll K H ws es → DtAll K H (vs ++ ws) (ds ++ es)
  | _, _, _, _, .nil, b => b
  | _, _, _, _, .cons h a, b => .cons h (a.app b)
theorem DtAll.take : ∀ {vs : List V} {ds : List PyData} (n : Nat), DtAll K H vs ds → DtAll K H (vs.take n) (ds.take n)
  | _, _, 0, _ => .nil
  | _, _, _ + 1, .nil => .nil
  | _, _, n + 1, .cons h a => .cons h (a.take n)
theorem DtAll.drop : ∀ {vs : List V} {ds : List PyData} (n : Nat), DtAll K H vs ds → DtAll K H (vs.drop n) (ds.drop n)
  | _, _, 0, a => a
  | _, _, _ + 1, .nil => .nil
  | _, _, n + 1, .cons _ a => a.drop n
theorem DtAll.ints : ∀ (ns : List Int), DtAll K H (ns.map V.int) (ns.map PyData.int)
  | [] => .nil
  | n :: ns => .cons (.int n) (DtAll.ints ns)
theorem item_of {ns : List Int} {i : Nat} {y : V} (hi : (ns.map V.int)[i]? = some y) : ∃ z, ns[i]? = some z ∧ y = V.int z := by
  rw [List.getElem?_map] at hi
  cases e : ns[i]? with
  | none => rw [e] at hi; cases hi
  | some z => rw [e] at hi; exact ⟨z, rfl, (Option.some.inj hi).symm⟩
theorem take_more {α : Type} : ∀ {l : List α} {i : Nat} {x : α}, l[i]? = some x → l.take (i + 1) = l.take i ++ [x]
  | [], i, x, h => by simp at h
  | a :: l, 0, x, h => by simp at h; simp [h]
  | a :: l, i + 1, x, h => by
    have ih := take_more (l := l) (i := i) (x := x) (by simpa using h)
    simp [ih]
end
end LG
/-! ### a def of the text with its promise, by its name -/
namespace LG
open PySem PySem.Spec PyProof.Rows L2
/-- the def of this name, the place hidden -/
structure Has (P : Program) (w : World) (K : PySem.W.Frag) (mg : Str → Option Value) (base : Heap) (CX : CXT) (k : Nat) (x : Str) (ps : List Str) (sp : Sp) : Prop where
  ex : ∃ (f : Addr) (fd : FuncData), FnOk P w K mg base CX k f fd ps sp ∧ mg x = some (.ref f) ∧ PySem.W.keepIn K (.ref f) = true ∧ Binds K fd ps []
structure HasG (P : Program) (w : World) (K : PySem.W.Frag) (mg : Str → Option Value) (base : Heap) (k : Nat) (x : Str) (ps : List Str) (sp : Sp) : Prop where
  ex : ∃ (f : Addr) (fd : FuncData), FnG P w K mg base k f fd ps sp ∧ mg x = some (.ref f) ∧ PySem.W.keepIn K (.ref f) = true ∧ Binds K fd ps []
/-- the def as the top has left it -/
structure Def (K : PySem.W.Frag) (mg : Str → Option Value) (x : Str) (st : Stmt) (ps : List Str) : Prop where
  ex : ∃ (f : Addr) (fd : FuncData), Fun K x x st f fd ∧ mg x = some (.ref f) ∧ Binds K fd ps []
section
variable {P : Program} {w : World} {K : PySem.W.Frag} {mg : Str → Option Value} {base : Heap} {CX : CXT} {k : Nat} {x : Str} {ps : List Str} {sp : Sp} {st : Stmt}
theorem Def.has (d : Def K mg x st ps) (h : ∀ (f : Addr) (fd : FuncData), Fun K x x st f fd → FnOk P w K mg base CX k f fd ps sp) : Has P w K mg base CX k x ps sp := by
  obtain ⟨f, fd, F, m, b⟩ := d.ex
  exact ⟨f, fd, h f fd F, m, F.kp, b⟩
theorem Def.hasG (d : Def K mg x st ps) (h : ∀ (f : Addr) (fd : FuncData), Fun K x x st f fd → FnG P w K mg base k f fd ps sp) : HasG P w K mg base k x ps sp := by
  obtain ⟨f, fd, F, m, b⟩ := d.ex
  exact ⟨f, fd, h f fd F, m, F.kp, b⟩
theorem Has.more {j : Nat} (h : Has P w K mg base CX k x ps sp) (hj : k ≤ j) : Has P w K mg base CX j x ps sp := by
  obtain ⟨f, fd, F, r⟩ := h.ex
  exact ⟨f, fd, F.mono hj, r⟩
theorem Has.imp {sp' : Sp} (h : Has P w K mg base CX k x ps sp) (i : ∀ vs H Q E, sp' vs H Q E → sp vs H Q E) : Has P w K mg base CX k x ps sp' := by
  obtain ⟨f, fd, F, r⟩ := h.ex
  exact ⟨f, fd, F.imp i, r⟩
end
section
variable {X : Cx} {k j : Nat} {ps : List Str} {sp : Sp} {x : Str} {p pos : Pos} {e : Expr} {es : List Expr} {t : TA}
/-- its call: nothing is raised -/
theorem pc (h : Has X.prog X.w X.K X.mg X.base CX0 k x ps sp) (hr : Room j X.A) (ha : PA X (e :: es) t) (hg : Gl X x := by rfl) (hj : k ≤ j := by first | decide | omega) (hdb : (x == ("__debug__" : Str)) = false := by decide)
    (he : starEach (e :: es) X.env = (false, eval e X.env) :: starEach es X.env := by rfl) (hpl : (backTo pos (starEach es X.env)).any (·.1) = false := by rfl) : PE X (.Call (.Name x p) (e :: es) [] pos) (tCall sp [] E0 t) := by
  obtain ⟨f, fd, F, m, kp, b⟩ := h.ex
  exact pe_call F (hr.mono hj) hg m kp b .nil pass0 ha hdb he hpl
theorem pcX (h : Has X.prog X.w X.K X.mg X.base (L2.CX X.prog X.w) k x ps sp) (hr : Room j X.A) (ha : PA X (e :: es) t) (hg : Gl X x := by rfl) (hj : k ≤ j := by first | decide | omega) (hdb : (x == ("__debug__" : Str)) = false := by decide)
    (he : starEach (e :: es) X.env = (false, eval e X.env) :: starEach es X.env := by rfl) (hpl : (backTo pos (starEach es X.env)).any (·.1) = false := by rfl) : PE X (.Call (.Name x p) (e :: es) [] pos) (tCall sp [] E0 t) := by
  obtain ⟨f, fd, F, m, kp, b⟩ := h.ex
  exact pe_call F (hr.mono hj) hg m kp b .nil passL ha hdb he hpl
theorem pcG (h : HasG X.prog X.w X.K X.mg X.base k x ps sp) (guard : X.A.guards = some []) (hr : Room j X.A) (ha : PA X (e :: es) t) (hg : Gl X x := by rfl) (hj : k ≤ j := by first | decide | omega) (hdb : (x == ("__debug__" : Str)) = false := by decide)
    (he : starEach (e :: es) X.env = (false, eval e X.env) :: starEach es X.env := by rfl) (hpl : (backTo pos (starEach es X.env)).any (·.1) = false := by rfl) : PE X (.Call (.Name x p) (e :: es) [] pos) (tCall sp [] E0 t) := by
  obtain ⟨f, fd, F, m, kp, b⟩ := h.ex
  exact pe_callG F guard (hr.mono hj) hg m kp b ha hdb he hpl
/-- its call: what it raises leaves this def too -/
theorem pcE {E : XK} (h : Has X.prog X.w X.K X.mg X.base (L2.CX X.prog X.w) k x ps sp) (hr : Room j X.A) (tk : Takes X (fun cls d _ H => E cls d H)) (ha : PA X (e :: es) t) (hg : Gl X x := by rfl) (hj : k ≤ j := by first | decide | omega) (hdb : (x == ("__debug__" : Str)) = false := by decide)
    (he : starEach (e :: es) X.env = (false, eval e X.env) :: starEach es X.env := by rfl) (hpl : (backTo pos (starEach es X.env)).any (·.1) = false := by rfl) : PE X (.Call (.Name x p) (e :: es) [] pos) (tCall sp [] E t) := by
  obtain ⟨f, fd, F, m, kp, b⟩ := h.ex
  exact pe_call F (hr.mono hj) hg m kp b .nil (passes_call tk fun _ _ _ _ z => z) ha hdb he hpl
/-- its call within a try's body: what it raises is wished for -/
theorem pcS {W : WX} (h : Has X.prog X.w X.K X.mg X.base (L2.CX X.prog X.w) k x ps sp) (hr : Room j X.A) (tk : Takes X W) (ha : PA X (e :: es) t) (hg : Gl X x := by rfl) (hj : k ≤ j := by first | decide | omega) (hdb : (x == ("__debug__" : Str)) = false := by decide)
    (he : starEach (e :: es) X.env = (false, eval e X.env) :: starEach es X.env := by rfl) (hpl : (backTo pos (starEach es X.env)).any (·.1) = false := by rfl) : PE X (.Call (.Name x p) (e :: es) [] pos) (tCallS sp (WE W) t) := by
  obtain ⟨f, fd, F, m, kp, b⟩ := h.ex
  exact pe_callS F (hr.mono hj) hg m kp b (fun σ => passAt tk σ) ha hdb he hpl
end
/-! ### places in lists of ints -/
theorem ix_of {n : Nat} {i : Int} (h0 : 0 ≤ i) (h1 : i < n) : ixN n i = some i.toNat := by
  unfold ixN
  rw [if_pos h0, if_pos h1]
theorem at_int {ns : List Int} {i : Int} (h0 : 0 ≤ i) (h1 : i < ns.length) : ∃ z, ns[i.toNat]? = some z ∧ z ∈ ns ∧ atI (ns.map V.int) i = some (.int z) := by
  have lt : i.toNat < ns.length := by omega
  refine ⟨ns[i.toNat], by simp, List.getElem_mem _, ?_⟩
  refine at_of (j := i.toNat) (by omega) ?_
  rw [List.getElem?_map]
  simp
theorem dec_t {p : Prop} [Decidable p] (h : decide p = true) : p := of_decide_eq_true h
theorem dec_f {p : Prop} [Decidable p] (h : ¬ decide p = true) : ¬ p := fun z => h (decide_eq_true z)
end LG
namespace LG
open PySem PySem.Spec PyProof.Rows L2
section
variable {X : Cx}
/-- == and != of ints -/
theorem op_eqi : OpR X (compareOp .Eq) (rI0 fun i j => .bl (decide (i = j))) := by
  intro pins s σ H x y v u Q inv rx ry want
  obtain ⟨i, j, rfl, rfl, q⟩ := want
  refine op_eq pins s σ H _ _ v u Q inv rx ry ⟨rfl, ?_⟩
  rw [show decide (V.int i = V.int j) = decide (i = j) from decide_eq_decide.mpr ⟨fun z => V.int.inj z, fun z => congrArg V.int z⟩]
  exact q
theorem op_nei : OpR X (compareOp .NotEq) (rI0 fun i j => .bl (!decide (i = j))) := by
  intro pins s σ H x y v u Q inv rx ry want
  obtain ⟨i, j, rfl, rfl, q⟩ := want
  refine op_ne pins s σ H _ _ v u Q inv rx ry ⟨rfl, ?_⟩
  rw [show decide (V.int i = V.int j) = decide (i = j) from decide_eq_decide.mpr ⟨fun z => V.int.inj z, fun z => congrArg V.int z⟩]
  exact q
/-- == and != of texts -/
theorem op_eqs : OpR X (compareOp .Eq) (fun x y H Q => ∃ a b, x = .str a ∧ y = .str b ∧ Q (.bl (decide (a = b))) H) := by
  intro pins s σ H x y v u Q inv rx ry want
  obtain ⟨i, j, rfl, rfl, q⟩ := want
  refine op_eq pins s σ H _ _ v u Q inv rx ry ⟨rfl, ?_⟩
  rw [show decide (V.str i = V.str j) = decide (i = j) from decide_eq_decide.mpr ⟨fun z => V.str.inj z, fun z => congrArg V.str z⟩]
  exact q
theorem op_nes : OpR X (compareOp .NotEq) (fun x y H Q => ∃ a b, x = .str a ∧ y = .str b ∧ Q (.bl (!decide (a = b))) H) := by
  intro pins s σ H x y v u Q inv rx ry want
  obtain ⟨i, j, rfl, rfl, q⟩ := want
  refine op_ne pins s σ H _ _ v u Q inv rx ry ⟨rfl, ?_⟩
  rw [show decide (V.str i = V.str j) = decide (i = j) from decide_eq_decide.mpr ⟨fun z => V.str.inj z, fun z => congrArg V.str z⟩]
  exact q
end
/-! ### parts of tuples -/
theorem cut_last (xs : List V) (v : V) : cutV (xs ++ [v]) none (some (-1)) = xs := by
  unfold cutV HT.sIx
  simp only [List.length_append, List.length_singleton]
  rw [if_pos (by decide)]
  rw [List.drop_zero, show ((-1 + ((xs.length + 1 : Nat) : Int)).toNat - 0) = xs.length from by omega]
  simp
theorem cut_last_whole (xs : List V) (v : V) : ¬ (HT.sIx (xs ++ [v]).length 0 none = 0 ∧ HT.sIx (xs ++ [v]).length (xs ++ [v]).length (some (-1)) = (xs ++ [v]).length) := by
  unfold HT.sIx
  simp only [List.length_append, List.length_singleton]
  rw [if_pos (by decide)]
  omega
theorem cut_to (xs : List V) (n : Nat) : cutV xs none (some (n : Int)) = xs.take n := by
  unfold cutV
  rw [HT.sIx_none, HT.sIx_nat, List.drop_zero, Nat.sub_zero]
  rcases Nat.le_total n xs.length with h | h
  · rw [Nat.min_eq_left h]
  · rw [Nat.min_eq_right h, List.take_of_length_le (Nat.le_refl _), List.take_of_length_le h]
theorem cut_from (xs : List V) (n : Nat) : cutV xs (some (n : Int)) none = xs.drop n := by
  unfold cutV
  rw [HT.sIx_none, HT.sIx_nat]
  rcases Nat.le_total n xs.length with h | h
  · rw [Nat.min_eq_left h, List.take_of_length_le (by rw [List.length_drop]; exact Nat.le_refl _)]
  · rw [Nat.min_eq_right h, List.drop_of_length_le (Nat.le_refl _), List.drop_of_length_le h, List.take_nil]
/-- a slice of a tuple: the tuple itself, or a new one, of these items -/
def rCut (K : PySem.W.Frag) : V → Option Int → Option Int → Hp → VK → Prop := fun x lo hi H Q => ∃ a xs, x = .ref a ∧ SqT K H a xs ∧
  ∀ p H', Same H H' → SqT K H' p (cutV xs lo hi) → Q (.ref p) H'
theorem sl_cut {X : Cx} : SlR X (rCut X.K) := by
  intro pins s σ H x v vl vu lo hi sl Q inv rx hs pl pu want
  obtain ⟨a, xs, rfl, hx, q⟩ := want
  refine sl_tupA pins s σ H _ v vl vu lo hi sl Q inv rx hs pl pu ⟨a, xs, rfl, hx, fun whole => q a H (Same.refl H) ?_, fun _ p hp => q p _ (same_new hp _) (SqT.of upd_same)⟩
  have e : cutV xs lo hi = xs := by
    unfold cutV
    rw [whole.1, whole.2, List.drop_zero, Nat.sub_zero, List.take_of_length_le (Nat.le_refl _)]
  rw [e]
  exact hx
/-- t + u: one of the two, or a new tuple, of these items -/
def rPlus (K : PySem.W.Frag) : R2 := fun x y H Q => ∃ a b xs ys, x = .ref a ∧ y = .ref b ∧ SqT K H a xs ∧ SqT K H b ys ∧ xs.length + ys.length ≤ sizeLine ∧
  ∀ p H', Same H H' → SqT K H' p (xs ++ ys) → Q (.ref p) H'
theorem op_plus {X : Cx} : OpR X (binaryOp .Add) (rPlus X.K) := by
  intro pins s σ H x y v u Q inv rx ry want
  obtain ⟨a, b, xs, ys, rfl, rfl, ha, hb, hz, q⟩ := want
  refine op_catA pins s σ H _ _ v u Q inv rx ry ⟨a, b, xs, ys, rfl, rfl, ha, hb, hz, fun e => q b H (Same.refl H) ?_, fun _ e => q a H (Same.refl H) ?_, fun _ _ p hp => q p _ (same_new hp _) (SqT.of upd_same)⟩
  · rw [e]
    exact hb
  · rw [e, List.append_nil]
    exact ha
theorem small16 {n : Nat} (h : n ≤ 100000) : n ≤ sizeLine := Nat.le_trans h (by decide)
end LG
/-! ### error classes of the text -/
namespace LG
open PySem PySem.Spec PyProof.Rows L2
/-- the class of this name over ValueError -/
structure Err (K : PySem.W.Frag) (mg : Str → Option Value) (x : Str) (C : Addr) : Prop where
  xi : PySem.W.excIn K C [.type "ValueError", .type "Exception", .type "BaseException", .type "object"] "ValueError.__new__" = true
  g : mg x = some (.ref C)
  k : PySem.W.keepIn K (.ref C) = true
  b : PySem.W.subIn K (.ref C) (.type "BaseException") = some true
  t : PySem.W.typeIn K (.ref C) = some (.type "type")
/-- what a clause for the class at D makes of an error of the class at C -/
theorem exm_of2 {K : PySem.W.Frag} {C D : Addr} {r : Bool} (h1 : PySem.W.subIn K (.ref D) (.type "BaseException") = some true) (h2 : PySem.W.isClsIn K D = true) (h3 : PySem.W.typeIn K (.ref D) = some (.type "type")) (h4 : PySem.W.subIn K (.ref C) (.ref D) = some r) :
    PySem.W.exmOne K (.ref C) (.ref D) = some r := by
  show (if (PySem.W.subIn K (.ref D) (.type "BaseException") == some true) = true then (if (PySem.W.isClsIn K D && PySem.W.typeIn K (.ref D) == some (.type "type")) = true then PySem.W.subIn K (.ref C) (.ref D) else none) else none) = some r
  rw [h1, h2, h3, h4]
  rfl
end LG
/-! ### the hand from which the law takes its draws -/
namespace LG
open PySem PySem.Spec PyProof.Rows L2
/-- hand at h: the draws at d, how many were taken -/
def Hand (H : Hp) (h d : Addr) (ds : List Int) (n : Nat) : Prop := H h = some (.lst [.ref d, .int n]) ∧ H d = some (.lst (ds.map V.int))
section
variable {H H' : Hp} {h d : Addr} {ds : List Int} {n : Nat}
theorem Hand.ne (x : Hand H h d ds n) : d ≠ h := by
  rintro rfl
  have e := x.1.symm.trans x.2
  cases ds with
  | nil => cases e
  | cons z ds => cases e
theorem Hand.next (x : Hand H h d ds n) : Hand (upd H h (.lst [.ref d, .int ((n + 1 : Nat) : Int)])) h d ds (n + 1) := ⟨upd_same, by rw [upd_ne x.ne]; exact x.2⟩
theorem Hand.same (x : Hand H h d ds n) (s : Same H H') : Hand H' h d ds n := ⟨s _ _ x.1, s _ _ x.2⟩
theorem Hand.tups (x : Hand H h d ds n) : TupsStay H (upd H h (.lst [.ref d, .int ((n + 1 : Nat) : Int)])) := tups_lst x.1
/-- another list stays -/
theorem Hand.keep {a : Addr} {ns : List Int} (x : Hand H h d ds n) (e : H a = some (.lst (ns.map V.int))) : (upd H h (.lst [.ref d, .int ((n + 1 : Nat) : Int)])) a = some (.lst (ns.map V.int)) := by
  rw [upd_ne]
  · exact e
  rintro rfl
  have q := x.1.symm.trans e
  cases ns with
  | nil => cases q
  | cons z ns => cases q
end
end LG
/-! ### data of any kind, outside the places that may change -/
namespace LG
open PySem PySem.Spec PyProof.Rows L2
/-- what lies outside M stays, and all tuples -/
structure Go (M : Addr → Prop) (H H' : Hp) : Prop where
  out : ∀ b o, ¬ M b → H b = some o → H' b = some o
  tups : TupsStay H H'
section
variable {M : Addr → Prop} {H H1 H' : Hp} {K : PySem.W.Frag}
theorem Go.refl (H : Hp) : Go M H H := ⟨fun _ _ _ e => e, TupsStay.refl H⟩
theorem Go.trans (a : Go M H H1) (b : Go M H1 H') : Go M H H' := ⟨fun c o m e => b.out c o m (a.out c o m e), a.tups.trans b.tups⟩
theorem _root_.L2.Same.go (s : Same H H') : Go M H H' := ⟨fun b o _ e => s b o e, s.tups⟩
theorem Go.put {a : Addr} {xs ys : List V} (m : M a) (h : H a = some (.lst xs)) : Go M H (upd H a (.lst ys)) := ⟨fun b u n e => by
  rw [upd_ne (fun z => n (by rw [z]; exact m))]
  exact e, tups_lst h⟩
theorem Go.new {p : Addr} (h : H p = none) (o : HO) : Go M H (L2.upd H p o) := L2.Same.go (same_new h o)
theorem Go.seqL {a : Addr} {xs : List V} (s : Go M H H') (m : ¬ M a) (h : SqL K H a xs) : SqL K H' a xs := by
  rcases h with (h | ⟨o, h⟩) | h
  · exact .inl (.inl (s.out _ _ m h))
  · exact .inl (.inr ⟨o, s.out _ _ m h⟩)
  · exact .inr h
theorem Go.seqT {a : Addr} {xs : List V} (s : Go M H H') (h : SqT K H a xs) : SqT K H' a xs := s.tups.seq h
end
mutual
inductive Dv (M : Addr → Prop) (K : PySem.W.Frag) (H : Hp) : V → PyData → Prop
  | non : Dv M K H .non .none
  | bl (b : Bool) : Dv M K H (.bl b) (.bool b)
  | int (i : Int) : Dv M K H (.int i) (.int i)
  | str (x : Str) : Dv M K H (.str x) (.str x)
  | lst {a : Addr} {xs : List V} {ds : List PyData} : ¬ M a → SqL K H a xs → DvAll M K H xs ds → Dv M K H (.ref a) (.list ds)
  | tup {a : Addr} {xs : List V} {ds : List PyData} : SqT K H a xs → DvAll M K H xs ds → Dv M K H (.ref a) (.tuple ds)
inductive DvAll (M : Addr → Prop) (K : PySem.W.Frag) (H : Hp) : List V → List PyData → Prop
  | nil : DvAll M K H [] []
  | cons {v : V} {vs : List V} {d : PyData} {ds : List PyData} : Dv M K H v d → DvAll M K H vs ds → DvAll M K H (v :: vs) (d :: ds)
end
section
variable {M M' : Addr → Prop} {K : PySem.W.Frag} {H H' : Hp}
mutual
theorem Dv.dp : ∀ {v : V} {d : PyData}, Dv M K H v d → Dp K H v d
  | _, _, .non => .non
  | _, _, .bl b => .bl b
  | _, _, .int i => .int i
  | _, _, .str x => .str x
  | _, _, .lst _ h a => .lst h a.dp
  | _, _, .tup h a => .tup h a.dp
theorem DvAll.dp : ∀ {vs : List V} {ds : List PyData}, DvAll M K H vs ds → DpAll K H vs ds
  | _, _, .nil => .nil
  | _, _, .cons h a => .cons h.dp a.dp
end
mutual
theorem Dv.stay (t : Go M H H') : ∀ {v : V} {d : PyData}, Dv M K H v d → Dv M K H' v d
  | _, _, .non => .non
  | _, _, .bl b => .bl b
  | _, _, .int i => .int i
  | _, _, .str x => .str x
  | _, _, .lst m h a => .lst m (t.seqL m h) (a.stay t)
  | _, _, .tup h a => .tup (t.seqT h) (a.stay t)
theorem DvAll.stay (t : Go M H H') : ∀ {vs : List V} {ds : List PyData}, DvAll M K H vs ds → DvAll M K H' vs ds
  | _, _, .nil => .nil
  | _, _, .cons h a => .cons (h.stay t) (a.stay t)
end
theorem DvAll.len : ∀ {vs : List V} {ds : List PyData}, DvAll M K H vs ds → vs.length = ds.length
  | _, _, .nil => rfl
  | _, _, .cons _ a => by rw [List.length_cons, List.length_cons, a.len]
theorem DvAll.at : ∀ {vs : List V} {ds : List PyData} {i : Nat} {d : PyData}, DvAll M K H vs ds → ds[i]? = some d → ∃ v, vs[i]? = some v ∧ Dv M K H v d
  | _, _, _, _, .nil, e => by simp at e
  | _, _, 0, _, .cons h _, e => by simp at e; subst e; exact ⟨_, rfl, h⟩
  | _, _, i + 1, d, .cons _ a, e => by simpa using a.at (i := i) (by simpa using e)
theorem DvAll.of : ∀ {vs : List V} {ds : List PyData} {i : Nat} {v : V}, DvAll M K H vs ds → vs[i]? = some v → ∃ d, ds[i]? = some d ∧ Dv M K H v d
  | _, _, _, _, .nil, e => by simp at e
  | _, _, 0, _, .cons h _, e => by simp at e; subst e; exact ⟨_, rfl, h⟩
  | _, _, i + 1, d, .cons _ a, e => by simpa using a.of (i := i) (by simpa using e)
theorem DvAll.app : ∀ {vs ws : List V} {ds es : List PyData}, DvAll M K H vs ds → DvAll M K H ws es → DvAll M K H (vs ++ ws) (ds ++ es)
  | _, _, _, _, .nil, b => b
  | _, _, _, _, .cons h a, b => .cons h (a.app b)
theorem DvAll.take : ∀ {vs : List V} {ds : List PyData} (n : Nat), DvAll M K H vs ds → DvAll M K H (vs.take n) (ds.take n)
  | _, _, 0, _ => .nil
  | _, _, _ + 1, .nil => .nil
  | _, _, n + 1, .cons h a => .cons h (a.take n)
theorem DvAll.drop : ∀ {vs : List V} {ds : List PyData} (n : Nat), DvAll M K H vs ds → DvAll M K H (vs.drop n) (ds.drop n)
  | _, _, 0, a => a
  | _, _, _ + 1, .nil => .nil
  | _, _, n + 1, .cons _ a => a.drop n
theorem DvAll.ints : ∀ (ns : List Int), DvAll M K H (ns.map V.int) (ns.map PyData.int)
  | [] => .nil
  | n :: ns => .cons (.int n) (DvAll.ints ns)
/-- the built-in type of data -/
def tyD : PyData → String
  | .none => "NoneType"
  | .bool _ => "bool"
  | .int _ => "int"
  | .str _ => "str"
  | .list _ => "list"
  | .tuple _ => "tuple"
  | .dict _ => "dict"
theorem tyx_lst {a : Addr} {xs : List V} (h : SqL K H a xs) : TyX K H (.ref a) (.type "list") := by
  rcases h with (h | ⟨o, h⟩) | ⟨o, its, n, hk, hc, _⟩
  · exact .base (.lst h)
  · exact .base (.frz h)
  · exact .kList hk hc
theorem tyx_tup {a : Addr} {xs : List V} (h : SqT K H a xs) : TyX K H (.ref a) (.type "tuple") := by
  rcases h with (h | ⟨o, h⟩) | ⟨o, its, n, hk, hc, _⟩
  · exact .base (.tup h)
  · exact .fTuple h
  · exact .kTuple hk hc
theorem Dv.ty {v : V} {d : PyData} (h : Dv M K H v d) : TyX K H v (.type (tyD d)) := by
  cases h with
  | non => exact .base .non
  | bl b => exact .base (.bl b)
  | int i => exact .base (.int i)
  | str x => exact .base (.str x)
  | lst _ h _ => exact tyx_lst h
  | tup h _ => exact tyx_tup h
/-- a dict with few keys, at the top of a value: what repr tells of it -/
def keyD : Key → PyData
  | .inl i => .int i
  | .inr x => .str x
/-- data, or a dict of such without lists -/
inductive Dq (M : Addr → Prop) (K : PySem.W.Frag) (H : Hp) : V → PyData → Prop
  | data {v : V} {d : PyData} : Dv M K H v d → Dq M K H v d
  | dct {a : Addr} {kvs : List (Key × V)} {ds : List PyData} : ¬ M a → H a = some (.dK kvs) → DtAll K H (kvs.map (·.2)) ds → Dq M K H (.ref a) (.dict ((kvs.map fun p => keyD p.1).zip ds))
end
section
variable {M : Addr → Prop} {K : PySem.W.Frag} {H H' : Hp}
mutual
theorem Dt.dv : ∀ {v : V} {d : PyData}, Dt K H v d → Dv M K H v d
  | _, _, .non => .non
  | _, _, .bl b => .bl b
  | _, _, .int i => .int i
  | _, _, .str x => .str x
  | _, _, .tup h a => .tup h a.dv
theorem DtAll.dv : ∀ {vs : List V} {ds : List PyData}, DtAll K H vs ds → DvAll M K H vs ds
  | _, _, .nil => .nil
  | _, _, .cons h a => .cons h.dv a.dv
end
theorem Dq.stay {v : V} {d : PyData} (t : Go M H H') (h : Dq M K H v d) : Dq M K H' v d := by
  cases h with
  | data h => exact .data (h.stay t)
  | dct m h a => exact .dct m (t.out _ _ m h) (a.stay t.tups)
theorem Dq.ty {v : V} {d : PyData} (h : Dq M K H v d) : TyX K H v (.type (tyD d)) := by
  cases h with
  | data h => exact h.ty
  | dct _ h _ => exact .base (.dK h)
end
section
variable {X : Cx} {pins : List (Addr × Obj)} {σ : L2.St} {H : Hp} {s : Shared} {M : Addr → Prop}
mutual
/-- data without lists is read without a list's place -/
theorem Dt.bare (I : Inv X pins σ H s) : ∀ (d : PyData) (v : V) (u : Value), Dt X.K H v d → RelV v u → Reads s.heap u d []
  | .none, _, _, h, r => by
    cases h
    cases r
    exact Reads.none
  | .bool b, _, _, h, r => by
    cases h
    cases r
    exact Reads.bool b
  | .int i, _, _, h, r => by
    cases h
    obtain ⟨t, rfl⟩ := r
    exact Reads.int i t
  | .str x, _, _, h, r => by
    cases h
    obtain ⟨t, rfl⟩ := r
    exact Reads.str x t
  | .tuple ds, _, _, h, r => by
    cases h with
    | tup hs ha =>
      cases r
      obtain ⟨its, rv, ⟨o, ho, hc, n, hd⟩, _⟩ := I.tuple hs
      exact Reads.tuple ho hc hd (DtAll.bare I ds _ its ha rv)
  | .list _, _, _, h, _ => by cases h
  | .dict _, _, _, h, _ => by cases h
theorem DtAll.bare (I : Inv X pins σ H s) : ∀ (ds : List PyData) (vs : List V) (us : List Value), DtAll X.K H vs ds → Vals vs us → ReadsAll s.heap us ds []
  | [], _, _, h, r => by
    cases h
    cases r
    exact ReadsAll.nil
  | d :: ds, _, _, h, r => by
    cases h with
    | cons h1 h2 =>
      cases r with
      | cons r1 r2 => exact ReadsAll.cons (Dt.bare I d _ _ h1 r1) (DtAll.bare I ds _ _ h2 r2)
end
/-- a dict's keys and values -/
theorem pairs_read {P : Program} {w : World} {kvs : List (Key × V)} {vs : List (Key × Value)} {es : List DictEntry} (kv : KV kvs vs) (ps : Pairs (mixKind P w) es vs) :
    Vals (kvs.map fun p => kV p.1) (es.map (·.key)) ∧ Vals (kvs.map (·.2)) (es.map (·.val)) := by
  induction ps generalizing kvs with
  | nil =>
    cases kv
    exact ⟨.nil, .nil⟩
  | cons hk hv _ ih =>
    cases kv with
    | cons r rr =>
      obtain ⟨i1, i2⟩ := ih rr
      obtain ⟨e1, e2⟩ := r
      refine ⟨.cons ?_ i1, .cons ?_ i2⟩
      · rw [← e1] at hk
        have hk' : keyIs _ _ = true := hk
        rcases keyIs_shape hk' with ⟨i, t, e, q⟩ | ⟨x, t, e, q⟩
        · show RelV (kV _) (DictEntry.key _)
          rw [e, q]
          exact ⟨t, rfl⟩
        · show RelV (kV _) (DictEntry.key _)
          rw [e, q]
          exact ⟨t, rfl⟩
      · show RelV (Prod.snd _) (DictEntry.val _)
        rw [hv]
        exact e2
theorem keys_dt {K : PySem.W.Frag} : ∀ kvs : List (Key × V), DtAll K H (kvs.map fun p => kV p.1) (kvs.map fun p => keyD p.1)
  | [] => .nil
  | (.inl i, v) :: r => .cons (.int i) (keys_dt r)
  | (.inr x, v) :: r => .cons (.str x) (keys_dt r)
/-- repr of such data -/
def rRepV (K : PySem.W.Frag) : List V → Hp → VK → Prop := fun xs H Q => ∃ (M : Addr → Prop) (v : V) (d : PyData), xs = [v] ∧ Dq M K H v d ∧ d.showable = true ∧ d.depth ≤ 60 ∧ d.shown.length ≤ sizeLine ∧ Q (.str d.shown) H
theorem call_repV (guard : X.A.guards = some []) (room : X.A.units + 64 < cLine) : CallR X (.builtin "repr") (rRepV X.K) := by
  intro pins s σ H xs us Q inv rel want
  obtain ⟨M, v, d, e, hd, h1, h2, h3, q⟩ := want
  cases hd with
  | data hd => exact call_rep guard room pins s σ H xs us Q inv rel ⟨v, d, e, hd.dp, h1, h2, h3, q⟩
  | @dct a kvs ds _ ha hv =>
    subst e
    cases rel with
    | cons r0 rr =>
      cases rr
      cases r0
      obtain ⟨_, sys, vs, kv, o, es, ep, ho, ex, hdat, _, ps, _⟩ := (show ObjOk X.prog X.w H s.heap a (.dK kvs) from inv.hok a _ ha)
      obtain ⟨r1, r2⟩ := pairs_read kv ps
      have k1 := DtAll.bare inv _ _ _ (keys_dt kvs) r1
      have k2 := DtAll.bare inv _ _ _ hv r2
      have len : (kvs.map fun p => keyD p.1).length = ds.length := by rw [List.length_map, ← hv.len, List.length_map]
      have z1 : ((kvs.map fun p => keyD p.1).zip ds).map (·.1) = kvs.map fun p => keyD p.1 := List.map_fst_zip (by rw [len]; exact Nat.le_refl _)
      have z2 : ((kvs.map fun p => keyD p.1).zip ds).map (·.2) = ds := List.map_snd_zip (by rw [len]; exact Nat.le_refl _)
      have reads : Reads s.heap (.ref a) (.dict ((kvs.map fun p => keyD p.1).zip ds)) (a :: [] ++ []) := Reads.dict ho ex.1 hdat (by rw [z1]; exact k1) (by rw [z2]; exact k2)
      refine repr_of_reads' reads h1 (fun _ mem => ?_) guard (by omega) (fun _ _ z => z) (fun h' u' tk keep => ⟨.str _, H, inv.kept keep, ⟨_, rfl⟩, q⟩) h3
      have e : sysModules = a := by simpa using mem
      rw [e] at sys
      simp at sys
end
end LG
namespace LG
open PySem PySem.Spec PyProof.Rows L2
section
variable {M : Addr → Prop} {K : PySem.W.Frag} {H H' : Hp}
/-- what was made since is changed -/
theorem Go.own {p : Addr} (g : Go M H H') (h : H p = none) (o : HO) : Go M H (L2.upd H' p o) := ⟨fun b u m e => by
  rw [upd_ne (ne_of_none e h)]
  exact g.out b u m e, fun b u k e => by
  rw [upd_ne (ne_of_none e h)]
  exact g.tups b u k e⟩
theorem Hand.off {h d p : Addr} {ds : List Int} {n : Nat} (x : Hand H h d ds n) (hp : p ≠ h) (dp : p ≠ d) (o : HO) : Hand (L2.upd H p o) h d ds n := ⟨by rw [upd_ne hp.symm]; exact x.1, by rw [upd_ne dp.symm]; exact x.2⟩
theorem Hand.go {h d : Addr} {ds : List Int} {n : Nat} (x : Hand H h d ds n) : Go (· = h) H (L2.upd H h (.lst [.ref d, .int ((n + 1 : Nat) : Int)])) := Go.put rfl x.1
theorem Hand.new {h d p : Addr} {ds : List Int} {n : Nat} (x : Hand H h d ds n) (hp : H p = none) (o : HO) : Hand (L2.upd H p o) h d ds n := x.same (same_new hp o)
theorem at_any {α : Type} {xs : List α} {i : Int} (h0 : -(xs.length : Int) ≤ i) (h1 : i < (xs.length : Int)) : ∃ (j : Nat) (y : α), xs[j]? = some y ∧ atI xs i = some y := by
  by_cases h : 0 ≤ i
  · have lt : i.toNat < xs.length := by omega
    refine ⟨i.toNat, xs[i.toNat], by simp [lt], ?_⟩
    unfold atI ixN
    rw [if_pos h, if_pos h1]
    simp [lt]
  · have lt : (i + (xs.length : Int)).toNat < xs.length := by omega
    refine ⟨(i + (xs.length : Int)).toNat, xs[(i + (xs.length : Int)).toNat], by simp [lt], ?_⟩
    unfold atI ixN
    rw [if_neg h, if_pos h0]
    simp [lt]
/-- some item of a row of data -/
theorem DvAll.pick {xs : List V} {ds : List PyData} {i : Int} (a : DvAll M K H xs ds) (h0 : -(ds.length : Int) ≤ i) (h1 : i < (ds.length : Int)) : ∃ y e, atI xs i = some y ∧ e ∈ ds ∧ Dv M K H y e := by
  rw [← a.len] at h0 h1
  obtain ⟨j, y, hj, hy⟩ := at_any h0 h1
  obtain ⟨e, he, d⟩ := a.of hj
  exact ⟨y, e, hy, List.mem_of_getElem? he, d⟩
theorem DtAll.pick {xs : List V} {ds : List PyData} {i : Int} (a : DtAll K H xs ds) (h0 : -(ds.length : Int) ≤ i) (h1 : i < (ds.length : Int)) : ∃ y e, atI xs i = some y ∧ e ∈ ds ∧ Dt K H y e := by
  rw [← a.len] at h0 h1
  obtain ⟨j, y, hj, hy⟩ := at_any h0 h1
  obtain ⟨e, he, d⟩ := a.of hj
  exact ⟨y, e, hy, List.mem_of_getElem? he, d⟩
inductive DqAll (M : Addr → Prop) (K : PySem.W.Frag) (H : Hp) : List V → List PyData → Prop
  | nil : DqAll M K H [] []
  | cons {v : V} {vs : List V} {d : PyData} {ds : List PyData} : Dq M K H v d → DqAll M K H vs ds → DqAll M K H (v :: vs) (d :: ds)
theorem DqAll.len : ∀ {vs : List V} {ds : List PyData}, DqAll M K H vs ds → vs.length = ds.length
  | _, _, .nil => rfl
  | _, _, .cons _ a => by rw [List.length_cons, List.length_cons, a.len]
theorem DqAll.of : ∀ {vs : List V} {ds : List PyData} {i : Nat} {v : V}, DqAll M K H vs ds → vs[i]? = some v → ∃ d, ds[i]? = some d ∧ Dq M K H v d
  | _, _, _, _, .nil, e => by simp at e
  | _, _, 0, _, .cons h _, e => by simp at e; subst e; exact ⟨_, rfl, h⟩
  | _, _, i + 1, d, .cons _ a, e => by simpa using a.of (i := i) (by simpa using e)
theorem DqAll.pick {xs : List V} {ds : List PyData} {i : Int} (a : DqAll M K H xs ds) (h0 : -(ds.length : Int) ≤ i) (h1 : i < (ds.length : Int)) : ∃ y e, atI xs i = some y ∧ e ∈ ds ∧ Dq M K H y e := by
  rw [← a.len] at h0 h1
  obtain ⟨j, y, hj, hy⟩ := at_any h0 h1
  obtain ⟨e, he, d⟩ := a.of hj
  exact ⟨y, e, hy, List.mem_of_getElem? he, d⟩
theorem DqAll.stay (t : Go M H H') : ∀ {vs : List V} {ds : List PyData}, DqAll M K H vs ds → DqAll M K H' vs ds
  | _, _, .nil => .nil
  | _, _, .cons h a => .cons (h.stay t) (a.stay t)
/-- two parts -/
theorem sized_two {m1 m2 h1 h2 : Nat} {a b : PyData} (sa : Sized m1 h1 a) (sb : Sized m2 h2 b) : Sized (m1 + m2 + 2) (max h1 h2 + 1) (.tuple [a, b]) := by
  obtain ⟨a1, a2, a3, a4⟩ := sa
  obtain ⟨b1, b2, b3, b4⟩ := sb
  refine ⟨?_, ?_, ?_, ?_⟩
  · simp only [PyData.leavesShort, PyData.leavesShortAll, a1, b1, Bool.and_self]
  · simp only [PyData.showable, PyData.showableAll, a2, b2, Bool.and_self]
  · simp only [PyData.depth, PyData.depthAll]
    omega
  · simp only [PyData.bulk, PyData.bulkAll]
    omega
theorem sized_str (x : Str) (h : (x.cps.toList.all fun c => decide (c < 16 ^ 8)) = true) (n : Nat) (hn : x.cps.size ≤ n) : Sized n 0 (.str x) := ⟨by simp only [PyData.leavesShort]; exact h, by simp only [PyData.showable], by simp only [PyData.depth]; omega, by simp only [PyData.bulk]; exact hn⟩
end
end LG
/-! ### tuples of ints: order, sorting; membership -/
namespace LG
open PySem PySem.Spec PyProof.Rows L2
/-- a row of ints as data -/
def tupI (r : List Int) : PyData := .tuple (r.map PyData.int)
section
variable {X : Cx}
theorem dp_row {K : PySem.W.Frag} {H : Hp} {a : Addr} {ns : List Int} (h : SqT K H a (ns.map V.int)) : Dp K H (.ref a) (tupI ns) := .tup h (DtAll.ints ns).dp
theorem row_depth (ns : List Int) : (tupI ns).depth = 1 := by
  unfold tupI
  simp only [PyData.depth, PySem.W.depth_ints]
theorem row_lt (ns ms : List Int) : PySem.W.dataLt (tupI ns) (tupI ms) = decide (ns < ms) := by
  rw [← PySem.W.dataLt_ints]
  exact PySem.W.dataLt_tuple _ _
theorem row_alike (ns ms : List Int) : PySem.W.alike (tupI ns) (tupI ms) = true := by
  unfold tupI
  rw [PySem.W.alike]
  exact PySem.W.alike_ints ns ms
/-- x >= y, rows of ints -/
def rGeR (K : PySem.W.Frag) : R2 := fun x y H Q => ∃ (a b : Addr) (ns ms : List Int), x = .ref a ∧ y = .ref b ∧ SqT K H a (ns.map V.int) ∧ SqT K H b (ms.map V.int) ∧ Q (.bl (!decide (ns < ms))) H
theorem op_geR (hu : X.A.units + 64 < cLine) : OpR X (compareOp .GtE) (rGeR X.K) := by
  intro pins s σ H x y v u Q I rx ry h
  obtain ⟨a, b, ns, ms, rfl, rfl, ha, hb, q⟩ := h
  obtain ⟨as, r1⟩ := Dp.reads I _ _ v (dp_row ha) rx
  obtain ⟨bs, r2⟩ := Dp.reads I _ _ u (dp_row hb) ry
  exact PySem.W.ge_data r1 r2 (row_alike ns ms) (by unfold tupI; exact nofun) (by rw [row_depth]; omega) ⟨.bl _, H, I, rfl, by rw [row_lt]; exact q⟩
def rLtR (K : PySem.W.Frag) : R2 := fun x y H Q => ∃ (a b : Addr) (ns ms : List Int), x = .ref a ∧ y = .ref b ∧ SqT K H a (ns.map V.int) ∧ SqT K H b (ms.map V.int) ∧ Q (.bl (decide (ns < ms))) H
theorem op_ltR (hu : X.A.units + 64 < cLine) : OpR X (compareOp .Lt) (rLtR X.K) := by
  intro pins s σ H x y v u Q I rx ry h
  obtain ⟨a, b, ns, ms, rfl, rfl, ha, hb, q⟩ := h
  obtain ⟨as, r1⟩ := Dp.reads I _ _ v (dp_row ha) rx
  obtain ⟨bs, r2⟩ := Dp.reads I _ _ u (dp_row hb) ry
  exact PySem.W.lt_data r1 r2 (row_alike ns ms) (by unfold tupI; exact nofun) (by rw [row_depth]; omega) ⟨.bl _, H, I, rfl, by rw [row_lt]; exact q⟩
/-- x in t, t a tuple of data -/
def rInTD (K : PySem.W.Frag) : R2 := fun x y H Q => ∃ d ds, Dp K H x d ∧ Dp K H y (.tuple ds) ∧ SeqAt.shaped d = true ∧ SeqAt.shaped (.list ds) = true ∧ Q (.bl (ds.any fun z => PyData.eqv z d)) H
theorem op_inTD (hu : X.A.units + 65 < cLine) : OpR X (compareOp .In) (rInTD X.K) := by
  intro pins s σ H x y v u Q I rx ry h
  obtain ⟨d, ds, hd, he, sd, se, q⟩ := h
  obtain ⟨as, r1⟩ := Dp.reads I d x v hd rx
  obtain ⟨bs, r2⟩ := Dp.reads I (.tuple ds) y u he ry
  exact SeqAt.in_tuple_reads r2 r1 (SeqAt.canLay_of_shaped se) (SeqAt.canLay_of_shaped sd) (room_in_shaped sd hu) ⟨.bl _, H, I, rfl, q⟩
/-- the order of sorting -/
def leR (a b : List Int) : Bool := !decide (b < a)
def rSortR (K : PySem.W.Frag) : List V → Hp → VK → Prop := fun vs H Q => ∃ (a : Addr) (xs : List V) (rs : List (List Int)), vs = [V.ref a] ∧ SqL K H a xs ∧ DtAll K H xs (rs.map tupI) ∧ rs.length ≤ 1000 ∧ (∀ r ∈ rs, r ≠ []) ∧
  ∀ (ys : List V) (p : Addr), H p = none → DtAll K H ys ((rs.mergeSort leR).map tupI) → Q (.ref p) (upd H p (.lst ys))
theorem each_of {K : PySem.W.Frag} {H : Hp} : ∀ {rs : List (List Int)} {xs : List V} {us : List Value}, DtAll K H xs (rs.map tupI) → Vals xs us → PySem.W.EachIs (fun u r => ∃ t, u = Value.ref t ∧ SqT K H t (r.map V.int)) us rs
  | [], _, _, h, r => by
    cases h
    cases r
    exact .nil
  | b :: bs, _, _, h, r => by
    cases h with
    | cons h1 h2 =>
      cases r with
      | cons r1 r2 =>
        refine .cons ?_ (each_of h2 r2)
        cases h1 with
        | @tup a ys ds hs ha =>
          cases r1
          refine ⟨a, rfl, ?_⟩
          have e : ys = b.map V.int := by
            clear hs h2 r2
            induction b generalizing ys with
            | nil => cases ha; rfl
            | cons x b ih =>
              cases ha with
              | cons h h' =>
                cases h
                rw [List.map_cons, ← ih h']
          rw [← e]
          exact hs
theorem each_back {K : PySem.W.Frag} {H : Hp} : ∀ {rs : List (List Int)} {us : List Value}, PySem.W.EachIs (fun u r => ∃ t, u = Value.ref t ∧ SqT K H t (r.map V.int)) us rs → ∃ ys, Vals ys us ∧ DtAll K H ys (rs.map tupI)
  | [], _, .nil => ⟨[], .nil, .nil⟩
  | b :: bs, _, .cons ⟨t, e, h⟩ r => by
    obtain ⟨ys, v, d⟩ := each_back r
    subst e
    exact ⟨.ref t :: ys, .cons rfl v, .cons (.tup h (DtAll.ints b)) d⟩
theorem cr_sortR (hu : X.A.units + 64 < cLine) : CallR X (.builtin "sorted") (rSortR X.K) := by
  intro pins s σ H vs us Q I r h
  obtain ⟨a, xs, rs, rfl, hs, hd, hz, ne, q⟩ := h
  obtain ⟨its, rv, hl, hz2⟩ := I.list hs
  rw [Vals.ref1 r]
  have ea := each_of hd rv
  have er : PySem.W.EachIs (fun v b => ∃ as, Reads s.heap v (tupI b) as) its rs := ea.mono fun u b ⟨t, e, ht⟩ => by
    subst e
    exact Dp.reads I _ _ _ (dp_row ht) rfl
  have al : PySem.W.AllAlike (rs.map tupI) := fun d hd d' hd' => by
    obtain ⟨x, _, rfl⟩ := List.mem_map.mp hd
    obtain ⟨y, _, rfl⟩ := List.mem_map.mp hd'
    exact row_alike x y
  have so : PySem.W.Sortable (rs.map tupI) := .inl fun d hd => by
    obtain ⟨x, hx, rfl⟩ := List.mem_map.mp hd
    cases x with
    | nil => exact absurd rfl (ne _ hx)
    | cons i x => exact ⟨_, _, rfl⟩
  refine PySem.W.sorted_data hl.isList ea er al so (Nat.le_trans hz (by decide)) (fun b _ => by rw [row_depth]; omega) fun out hlen hout => ?_
  have eo : PySem.W.dataLe false tupI = leR := by
    rw [PySem.W.dataLe_eq]
    funext x y
    simp only [cond_false, row_lt]
    rfl
  rw [eo] at hout
  obtain ⟨ys, vy, dy⟩ := each_back hout
  obtain ⟨ep, he'⟩ := PyProof.Rows.sortedAll_at s.heap its out.toArray
  have len : ys.length ≤ sizeLine := by
    rw [vy.length, hlen]
    exact Nat.le_trans hz (by decide)
  exact ⟨.ref _, upd H (s.heap.objs.size + 1) (.lst ys), I.laid (t' := s.toks) (fun _ _ => PyProof.Rows.sortedAll_old) (Nat.le_succ _) ⟨len, out, ep, vy, he'⟩, rfl, q _ _ (I.hok.fresh (Nat.le_succ _)) dy⟩
end
end LG
/-! ### data with dicts at any place -/
namespace LG
open PySem PySem.Spec PyProof.Rows L2
mutual
inductive Dn (M : Addr → Prop) (K : PySem.W.Frag) (H : Hp) : V → PyData → Prop
  | non : Dn M K H .non .none
  | bl (b : Bool) : Dn M K H (.bl b) (.bool b)
  | int (i : Int) : Dn M K H (.int i) (.int i)
  | str (x : Str) : Dn M K H (.str x) (.str x)
  | lst {a : Addr} {xs : List V} {ds : List PyData} : ¬ M a → H a = some (.lst xs) → DnAll M K H xs ds → Dn M K H (.ref a) (.list ds)
  | tup {a : Addr} {xs : List V} {ds : List PyData} : SqT K H a xs → DnAll M K H xs ds → Dn M K H (.ref a) (.tuple ds)
  | dct {a : Addr} {kvs : List (Key × V)} {ds : List PyData} : ¬ M a → H a = some (.dK kvs) → DnAll M K H (kvs.map (·.2)) ds → Dn M K H (.ref a) (.dict ((kvs.map fun p => keyD p.1).zip ds))
inductive DnAll (M : Addr → Prop) (K : PySem.W.Frag) (H : Hp) : List V → List PyData → Prop
  | nil : DnAll M K H [] []
  | cons {v : V} {vs : List V} {d : PyData} {ds : List PyData} : Dn M K H v d → DnAll M K H vs ds → DnAll M K H (v :: vs) (d :: ds)
end
section
variable {M M' : Addr → Prop} {K : PySem.W.Frag} {H H' : Hp}
mutual
theorem Dt.dn : ∀ {v : V} {d : PyData}, Dt K H v d → Dn M K H v d
  | _, _, .non => .non
  | _, _, .bl b => .bl b
  | _, _, .int i => .int i
  | _, _, .str x => .str x
  | _, _, .tup h a => .tup h a.dn
theorem DtAll.dn : ∀ {vs : List V} {ds : List PyData}, DtAll K H vs ds → DnAll M K H vs ds
  | _, _, .nil => .nil
  | _, _, .cons h a => .cons h.dn a.dn
end
mutual
theorem Dn.stay (t : Go M H H') : ∀ {v : V} {d : PyData}, Dn M K H v d → Dn M K H' v d
  | _, _, .non => .non
  | _, _, .bl b => .bl b
  | _, _, .int i => .int i
  | _, _, .str x => .str x
  | _, _, .lst m h a => .lst m (t.out _ _ m h) (a.stay t)
  | _, _, .tup h a => .tup (t.seqT h) (a.stay t)
  | _, _, .dct m h a => .dct m (t.out _ _ m h) (a.stay t)
theorem DnAll.stay (t : Go M H H') : ∀ {vs : List V} {ds : List PyData}, DnAll M K H vs ds → DnAll M K H' vs ds
  | _, _, .nil => .nil
  | _, _, .cons h a => .cons (h.stay t) (a.stay t)
end
theorem DnAll.len : ∀ {vs : List V} {ds : List PyData}, DnAll M K H vs ds → vs.length = ds.length
  | _, _, .nil => rfl
  | _, _, .cons _ a => by rw [List.length_cons, List.length_cons, a.len]
theorem DnAll.at : ∀ {vs : List V} {ds : List PyData} {i : Nat} {d : PyData}, DnAll M K H vs ds → ds[i]? = some d → ∃ v, vs[i]? = some v ∧ Dn M K H v d
  | _, _, _, _, .nil, e => by simp at e
  | _, _, 0, _, .cons h _, e => by simp at e; subst e; exact ⟨_, rfl, h⟩
  | _, _, i + 1, d, .cons _ a, e => by simpa using a.at (i := i) (by simpa using e)
theorem DnAll.of : ∀ {vs : List V} {ds : List PyData} {i : Nat} {v : V}, DnAll M K H vs ds → vs[i]? = some v → ∃ d, ds[i]? = some d ∧ Dn M K H v d
  | _, _, _, _, .nil, e => by simp at e
  | _, _, 0, _, .cons h _, e => by simp at e; subst e; exact ⟨_, rfl, h⟩
  | _, _, i + 1, d, .cons _ a, e => by simpa using a.of (i := i) (by simpa using e)
theorem DnAll.app : ∀ {vs ws : List V} {ds es : List PyData}, DnAll M K H vs ds → DnAll M K H ws es → DnAll M K H (vs ++ ws) (ds ++ es)
  | _, _, _, _, .nil, b => b
  | _, _, _, _, .cons h a, b => .cons h (a.app b)
theorem DnAll.take : ∀ {vs : List V} {ds : List PyData} (n : Nat), DnAll M K H vs ds → DnAll M K H (vs.take n) (ds.take n)
  | _, _, 0, _ => .nil
  | _, _, _ + 1, .nil => .nil
  | _, _, n + 1, .cons h a => .cons h (a.take n)
theorem DnAll.drop : ∀ {vs : List V} {ds : List PyData} (n : Nat), DnAll M K H vs ds → DnAll M K H (vs.drop n) (ds.drop n)
  | _, _, 0, a => a
  | _, _, _ + 1, .nil => .nil
  | _, _, n + 1, .cons _ a => a.drop n
theorem DnAll.pick {xs : List V} {ds : List PyData} {i : Int} (a : DnAll M K H xs ds) (h0 : -(ds.length : Int) ≤ i) (h1 : i < (ds.length : Int)) : ∃ y e, atI xs i = some y ∧ e ∈ ds ∧ Dn M K H y e := by
  rw [← a.len] at h0 h1
  obtain ⟨j, y, hj, hy⟩ := at_any h0 h1
  obtain ⟨e, he, d⟩ := a.of hj
  exact ⟨y, e, hy, List.mem_of_getElem? he, d⟩
theorem Dn.ty {v : V} {d : PyData} (h : Dn M K H v d) : TyX K H v (.type (tyD d)) := by
  cases h with
  | non => exact .base .non
  | bl b => exact .base (.bl b)
  | int i => exact .base (.int i)
  | str x => exact .base (.str x)
  | lst _ h _ => exact tyx_lst (SqL.of h)
  | tup h _ => exact tyx_tup h
  | dct _ h _ => exact .base (.dK h)
theorem dn_tup {x : V} {ds : List PyData} (h : Dn M K H x (.tuple ds)) : ∃ a xs, x = .ref a ∧ SqT K H a xs ∧ DnAll M K H xs ds := by
  cases h with
  | tup h1 h2 => exact ⟨_, _, rfl, h1, h2⟩
theorem dn_int {x : V} {i : Int} (h : Dn M K H x (.int i)) : x = .int i := by
  cases h
  rfl
theorem dn_str {x : V} {i : Str} (h : Dn M K H x (.str i)) : x = .str i := by
  cases h
  rfl
/-- without dicts it is the library's data -/
theorem Dn.dp : ∀ (d : PyData) {v : V}, d.hasDict = false → Dn M K H v d → Dp K H v d
  | .none, _, _, .non => .non
  | .bool b, _, _, .bl _ => .bl b
  | .int i, _, _, .int _ => .int i
  | .str x, _, _, .str _ => .str x
  | .list ds, _, n, .lst _ h a => .lst (SqL.of h) (go ds (by simpa only [PyData.hasDict] using n) a)
  | .tuple ds, _, n, .tup h a => .tup h (go ds (by simpa only [PyData.hasDict] using n) a)
  | .dict _, _, n, _ => by simp [PyData.hasDict] at n
where go : ∀ (ds : List PyData) {vs : List V}, PyData.hasDictAll ds = false → DnAll M K H vs ds → DpAll K H vs ds
  | [], _, _, .nil => .nil
  | d :: ds, _, n, .cons h a => by
    simp only [PyData.hasDictAll, Bool.or_eq_false_iff] at n
    exact .cons (Dn.dp d n.1 h) (go ds n.2 a)
/-- the table of modules is no list of ours -/
def Sys (K : PySem.W.Frag) (H : Hp) : Prop := ∃ o u, H sysModules = some (.frz o u)
theorem Sys.same (s : Sys K H) (e : Same H H') : Sys K H' := by
  obtain ⟨o, u, h⟩ := s
  exact ⟨o, u, e _ _ h⟩
theorem Sys.go (s : Sys K H) (e : Go M H H') (m : ¬ M sysModules) : Sys K H' := by
  obtain ⟨o, u, h⟩ := s
  exact ⟨o, u, e.out _ _ m h⟩
theorem Sys.lst (s : Sys K H) {a : Addr} {xs : List V} (h : H a = some (.lst xs)) : sysModules ≠ a := by
  obtain ⟨o, u, e⟩ := s
  rintro rfl
  rw [e] at h
  cases h
theorem Sys.ne (s : Sys K H) {a : Addr} {xs : List V} (h : H a = some (.lst xs)) : ¬ sysModules = a := s.lst h
end
section
variable {X : Cx} {pins : List (Addr × Obj)} {σ : L2.St} {H : Hp} {s : Shared} {M : Addr → Prop}
mutual
theorem Dn.reads (I : Inv X pins σ H s) (S : Sys X.K H) : ∀ {v : V} {d : PyData}, Dn M X.K H v d → ∀ u : Value, RelV v u → ∃ as, Reads s.heap u d as ∧ sysModules ∉ as
  | _, _, .non, _, r => by
    cases r
    exact ⟨_, Reads.none, List.not_mem_nil⟩
  | _, _, .bl b, _, r => by
    cases r
    exact ⟨_, Reads.bool b, List.not_mem_nil⟩
  | _, _, .int i, _, r => by
    obtain ⟨t, rfl⟩ := r
    exact ⟨_, Reads.int i t, List.not_mem_nil⟩
  | _, _, .str x, _, r => by
    obtain ⟨t, rfl⟩ := r
    exact ⟨_, Reads.str x t, List.not_mem_nil⟩
  | _, _, .lst _ hs ha, _, r => by
    cases r
    obtain ⟨its, rv, ⟨o, n, ho, hc, _, hd⟩, _⟩ := I.list (SqL.of hs)
    obtain ⟨as, q1, q2⟩ := DnAll.reads I S ha its rv
    refine ⟨_, Reads.list ho hc hd (by simpa using q1), ?_⟩
    rw [List.mem_cons]
    rintro (e | e)
    · exact S.lst hs e
    · exact q2 e
  | _, _, .tup hs ha, _, r => by
    cases r
    obtain ⟨its, rv, ⟨o, ho, hc, n, hd⟩, _⟩ := I.tuple hs
    obtain ⟨as, q1, q2⟩ := DnAll.reads I S ha its rv
    exact ⟨_, Reads.tuple ho hc hd (by simpa using q1), q2⟩
  | _, _, .dct (a := a) (kvs := kvs) (ds := ds) _ hH ha, _, r => by
    cases r
    obtain ⟨_, sys, vs, kv, o, es, ep, ho, ex, hdat, _, ps, _⟩ := (show ObjOk X.prog X.w H s.heap a (.dK kvs) from I.hok a _ hH)
    obtain ⟨r1, r2⟩ := pairs_read kv ps
    have k1 := DtAll.bare I _ _ _ (keys_dt kvs) r1
    have len : (kvs.map fun p => keyD p.1).length = ds.length := by rw [List.length_map, ← ha.len, List.length_map]
    have z1 : ((kvs.map fun p => keyD p.1).zip ds).map (·.1) = kvs.map fun p => keyD p.1 := List.map_fst_zip (by rw [len]; exact Nat.le_refl _)
    have z2 : ((kvs.map fun p => keyD p.1).zip ds).map (·.2) = ds := List.map_snd_zip (by rw [len]; exact Nat.le_refl _)
    obtain ⟨as, q1, q2⟩ := DnAll.reads I S ha _ r2
    refine ⟨_, Reads.dict ho ex.1 hdat (by rw [z1]; exact k1) (by rw [z2]; exact q1), ?_⟩
    rw [List.mem_append, List.mem_singleton]
    rintro (e | e)
    · rw [← e] at sys
      simp at sys
    · exact q2 e
theorem DnAll.reads (I : Inv X pins σ H s) (S : Sys X.K H) : ∀ {vs : List V} {ds : List PyData}, DnAll M X.K H vs ds → ∀ us : List Value, Vals vs us → ∃ as, ReadsAll s.heap us ds as ∧ sysModules ∉ as
  | _, _, .nil, _, r => by
    cases r
    exact ⟨_, ReadsAll.nil, List.not_mem_nil⟩
  | _, _, .cons h1 h2, _, r => by
    cases r with
    | cons r1 r2 =>
      obtain ⟨as, q1, n1⟩ := Dn.reads I S h1 _ r1
      obtain ⟨bs, q2, n2⟩ := DnAll.reads I S h2 _ r2
      refine ⟨_, ReadsAll.cons q1 q2, ?_⟩
      rw [List.mem_append]
      rintro (e | e)
      · exact n1 e
      · exact n2 e
end
end
section
variable {X : Cx}
/-- repr of such data -/
def rRepN (K : PySem.W.Frag) : List V → Hp → VK → Prop := fun xs H Q => ∃ (M : Addr → Prop) (v : V) (d : PyData), xs = [v] ∧ Dn M K H v d ∧ Sys K H ∧ d.showable = true ∧ d.depth ≤ 60 ∧ d.shown.length ≤ sizeLine ∧ Q (.str d.shown) H
theorem call_repN (guard : X.A.guards = some []) (room : X.A.units + 64 < cLine) : CallR X (.builtin "repr") (rRepN X.K) := by
  intro pins s σ H xs us Q inv rel want
  obtain ⟨M, v, d, rfl, hd, S, h1, h2, h3, q⟩ := want
  cases rel with
  | cons r0 rr =>
  rename_i u us'
  cases rr
  obtain ⟨as, reads, no⟩ := Dn.reads inv S hd u r0
  have dict : d.hasDict = true → sysModules ∉ as := fun _ => no
  cases hd with
  | non =>
    cases r0
    exact PySem.P.repr_of_none ⟨.str _, H, inv.tok _, ⟨_, rfl⟩, by simpa only [PyData.shown] using q⟩
  | bl b =>
    cases r0
    refine PySem.P.repr_of_bool ⟨.str _, H, inv.tok _, ⟨_, rfl⟩, by simpa only [PyData.shown] using q⟩
  | int i =>
    obtain ⟨t, rfl⟩ := r0
    exact PySem.P.repr_of_int (by simpa [PyData.showable] using h1) ⟨.str _, H, inv.tok _, ⟨_, rfl⟩, by simpa only [PyData.shown] using q⟩
  | str x =>
    obtain ⟨t, rfl⟩ := r0
    exact PySem.P.repr_of_str ⟨.str _, H, inv.tok _, ⟨_, rfl⟩, by simpa only [PyData.shown] using q⟩ (by simpa only [PyData.shown] using h3)
  | lst _ _ _ =>
    cases r0
    exact repr_of_reads' reads h1 dict guard (by omega) (fun _ _ z => z) (fun h' u' tk keep => ⟨.str _, H, inv.kept keep, ⟨_, rfl⟩, q⟩) h3
  | tup _ _ =>
    cases r0
    exact repr_of_reads' reads h1 dict guard (by omega) (fun _ _ z => z) (fun h' u' tk keep => ⟨.str _, H, inv.kept keep, ⟨_, rfl⟩, q⟩) h3
  | dct _ _ _ =>
    cases r0
    exact repr_of_reads' reads h1 dict guard (by omega) (fun _ _ z => z) (fun h' u' tk keep => ⟨.str _, H, inv.kept keep, ⟨_, rfl⟩, q⟩) h3
end
end LG
/-! ### the end, the table of modules told apart -/
namespace LG
open PySem PySem.W PySem.Spec PyProof.Rows L2
section
variable {P : Program} {w : World} {K : PySem.W.Frag} {mg mb : Str → Option Value} {k : Nat} {fa a : Addr} {fd : FuncData} {x : Str} {sp : Sp} {s : Shared} {vs : List Value} {ns : List Int}
theorem endS_from (inK : K.In s.heap) (mains : s.heap.Ns mainGlobals mg) (blts : s.heap.Ns builtinsNs mb) (boot : ∀ y : Str, y ≠ "__name__" → mb y = bootBuiltins y) (noLim : s.heap.NoLimit) (gens : s.gens = #[])
    (obj : s.heap.get? a = some { cls := .type "list", data := .seq vs.toArray }) (room : Room k callerA) (goesF : ∀ base : Heap, K.In base → base.Ns mainGlobals mg → FnG P w K mg base k fa fd [x] sp)
    (bind : ∀ (s : Shared) (u : Value), BindsTo s fd ⟨[u], []⟩ [(x, u)]) (H : Hp) (only : ∀ b, H b = none ∨ ∃ o u, H b = some (.frz o u)) (held : HOk P w H s.heap) (alone : ∀ b, H b ≠ none → b = a ∨ b = sysModules) (away : ∀ b, H b ≠ none → K.lookup b = none)
    (want : sp [.ref a] H (fun v _ => v = .bl true) E0) :
    codeAny (model P w) callerA (.call (.ref fa) ⟨[.ref a], []⟩) (fun r s' => r = .ok (.ret (.bool true)) ∧ OldK s.heap s'.heap ∧ s'.os = s.os ∧ AllBare s'.gens) s := by
  have space : ∀ {b : Addr} {m : Str → Option Value}, b ≠ sysModules → s.heap.Ns b m → (hidT s.heap H).Ns b m := fun {b m} nb ⟨o, es, ep, e, d, more⟩ =>
    ⟨o, es, ep, hidT_get e (by
      cases q : H b with
      | none => rfl
      | some u =>
        rcases alone b (by rw [q]; exact nofun) with here | here
        · rw [here, obj] at e
          have e2 := Option.some.inj e
          rw [← e2] at d
          exact nomatch d
        · exact absurd here nb), d, more⟩
  have baseK : K.In (hidT s.heap H) := fun b o e => hidT_get (inK b o e) (by
    cases q : H b with
    | none => rfl
    | some u =>
      have no := away b (by rw [q]; exact nofun)
      rw [no] at e
      exact nomatch e)
  have lim : (hidT s.heap H).NoLimit := by
    obtain ⟨mc, h1, h2⟩ := noLim
    exact ⟨mc, space (by decide) h1, h2⟩
  have mains2 := space (by decide) mains
  have modu : Mod K mg (hidT s.heap H) := ⟨baseK, mains2, ⟨mb, space (by decide) blts, boot⟩, lim⟩
  have e0 : Env0 P w K mg (hidT s.heap H) callerA [] s H := ⟨rfl, modu, fun _ _ e => of_hidT e, Nat.le_of_eq (hidT_size _ _), trivial, (fun _ hb => absurd (show _ ∈ ([] : List Addr) from hb) List.not_mem_nil), held, .of_eq gens⟩
  refine codeAny_mono ((goesF _ baseK mains2).goes callerA [] s H [.ref a] [.ref a] _ E0 rfl room e0 (bind s (.ref a)) (.cons rfl .nil) want) fun r s' got => ?_
  cases r with
  | error _ => exact False.elim got
  | ok flow =>
  cases flow with
  | next => exact False.elim got
  | brk => exact False.elim got
  | cont => exact False.elim got
  | ret u =>
    obtain ⟨v, H', sameOs, bare, un, held', rel, yes⟩ := got
    have yes' : v = .bl true := yes
    subst yes'
    obtain rfl : u = Value.bool true := rel
    refine ⟨rfl, OldK.of_keep fun b o e => ?_, sameOs, bare⟩
    rcases only b with free | ⟨ob, xs, fz⟩
    · exact un.keep b o e free (fun z => nomatch z) (fun z => nomatch z)
    · obtain ⟨e1, _⟩ := held b _ fz
      obtain ⟨e2, _⟩ := held' b _ (un.frzs b ob _ fz)
      rw [e2, ← e1, e]
theorem endS_call (inK : K.In s.heap) (mains : s.heap.Ns mainGlobals mg) (blts : s.heap.Ns builtinsNs mb) (boot : ∀ y : Str, y ≠ "__name__" → mb y = bootBuiltins y) (noLim : s.heap.NoLimit) (gens : s.gens = #[])
    (obj : s.heap.get? a = some { cls := .type "list", data := .seq vs.toArray }) (numbs : PyProof.Rows.IntsAre vs ns) (small : ns.length ≤ sizeLine) (room : Room k callerA) (sysK : K.lookup sysModules = none) (seer : s.heap.NoSeer)
    (goesF : ∀ base : Heap, K.In base → base.Ns mainGlobals mg → FnG P w K mg base k fa fd [x] sp) (bind : ∀ (s : Shared) (u : Value), BindsTo s fd ⟨[u], []⟩ [(x, u)])
    (want : ∀ H : Hp, Sys K H → SqL K H a (ns.map V.int) → sp [.ref a] H (fun v _ => v = .bl true) E0) :
    codeAny (model P w) callerA (.call (.ref fa) ⟨[.ref a], []⟩) (fun r s' => r = .ok (.ret (.bool true)) ∧ OldK s.heap s'.heap ∧ s'.os = s.os ∧ AllBare s'.gens) s := by
  have rel := vals_ints numbs
  obtain ⟨ob, hob⟩ : ∃ ob, s.heap.get? sysModules = some ob := by
    obtain ⟨mm, ⟨o, es, ep, e, _⟩, _⟩ := seer.mods
    exact ⟨o, e⟩
  let two : Hp := fun b => if b = a ∧ K.lookup a = none then some (.frz { cls := .type "list", data := .seq vs.toArray } (.lst (ns.map V.int))) else if b = sysModules then some (.frz ob (.ext fun h => h.get? sysModules = some ob)) else none
  have only : ∀ b, two b = none ∨ ∃ o u, two b = some (.frz o u) := fun b => by
    by_cases h1 : b = a ∧ K.lookup a = none
    · exact .inr ⟨_, _, if_pos h1⟩
    · by_cases h2 : b = sysModules
      · exact .inr ⟨_, _, (if_neg h1).trans (if_pos h2)⟩
      · exact .inl ((if_neg h1).trans (if_neg h2))
  have alone : ∀ b, two b ≠ none → b = a ∨ b = sysModules := fun b h => by
    by_cases h1 : b = a ∧ K.lookup a = none
    · exact .inl h1.1
    · by_cases h2 : b = sysModules
      · exact .inr h2
      · exact absurd ((if_neg h1).trans (if_neg h2)) h
  have away : ∀ b, two b ≠ none → K.lookup b = none := fun b h => by
    by_cases h1 : b = a ∧ K.lookup a = none
    · rw [h1.1]
      exact h1.2
    · by_cases h2 : b = sysModules
      · rw [h2]
        exact sysK
      · exact absurd ((if_neg h1).trans (if_neg h2)) h
  have held : HOk P w two s.heap := fun b u z => by
    by_cases h1 : b = a ∧ K.lookup a = none
    · have e : two b = _ := if_pos h1
      rw [e] at z
      obtain rfl := Option.some.inj z
      rw [h1.1]
      exact ⟨obj, by rw [List.length_map]; exact small, vs, _, rel, obj⟩
    · by_cases h2 : b = sysModules
      · have e : two b = _ := (if_neg h1).trans (if_pos h2)
        rw [e] at z
        obtain rfl := Option.some.inj z
        rw [h2]
        exact ⟨hob, hob, ⟨_, hob⟩, fun h1 h2 e k => k _ e⟩
      · have e : two b = _ := (if_neg h1).trans (if_neg h2)
        rw [e] at z
        cases z
  have sys : Sys K two := by
    by_cases h1 : sysModules = a ∧ K.lookup a = none
    · exact ⟨_, _, if_pos h1⟩
    · exact ⟨_, _, (if_neg h1).trans (if_pos rfl)⟩
  refine endS_from inK mains blts boot noLim gens obj room goesF bind two only held alone away (want two sys ?_)
  cases hk : K.lookup a with
  | some o =>
    have e := inK a o hk
    rw [obj] at e
    obtain rfl := Option.some.inj e
    exact Or.inr ⟨_, vs.toArray, _, hk, rfl, rfl, rfl, by rw [List.size_toArray, numbs.length]; exact small, by simpa using rel⟩
  | none => exact .inl (.inr ⟨_, if_pos ⟨rfl, hk⟩⟩)
end
theorem walk_S {l : PySem.W.OpenLaw} {n k : Nat} {q : Program} {loose : List Str} {XP : (Str → Option Value) → Heap → Prop} {YP : World → Heap → Prop} {d : DefRec} {K : Params → PySem.W.Frag} {sp : PySem.W.Frag → Sp} {x : Str}
    (hn : l.most = some n) (small : n ≤ sizeLine) (plain : d.params.defaults = []) (room : Room k callerA) (hq : importsNone q = true) (hY : ∀ (w : World) (h : Heap), YP w h → (K w.params).In h)
    (F : ∀ (w : World) (mg : Str → Option Value) (fa : Addr) (h : Heap), (K w.params).In h → h.Ns mainGlobals mg → mg d.name = some (.ref fa) →
      ∃ fd : FuncData, (K w.params).lookup sysModules = none ∧ (∀ (s : Shared) (u : Value), BindsTo s fd ⟨[u], []⟩ [(x, u)]) ∧ ∀ base : Heap, (K w.params).In base → base.Ns mainGlobals mg → FnG l.prog w (K w.params) mg base k fa fd [x] (sp (K w.params)))
    (want : ∀ (K : PySem.W.Frag) (H : Hp) (a : Addr) (ns : List Int), ns.length ≤ n → Sys K H → SqL K H a (ns.map V.int) → sp K [.ref a] H (fun v _ => v = .bl true) E0) :
    PySem.W.WalkO q loose XP YP l.row.toRowW d [] (fun f vs => PySem.call f vs) := by
  refine Att.attach_call hn plain fun w s0 s1 mg mb fa o pm cd doc a vs ns ground told ho hd hcd hmg obj numbs many gens => ?_
  have inK := hY w _ told
  obtain ⟨fd, sysK, bind, goesF⟩ := F w mg fa _ inK ground.T.g hmg
  exact endS_call inK ground.T.g ground.T.b ground.T.builtins ground.T.nolimit gens obj numbs (Nat.le_trans many small) room sysK (ground.T.seer hq) goesF bind fun H S held => want (K w.params) H a ns many S held
end LG
/-! ### sorted of a tuple of ints -/
namespace LG
open PySem PySem.Spec PyProof.Rows L2
def rSortTI (K : PySem.W.Frag) : List V → Hp → VK → Prop := fun vs H Q => ∃ (a : Addr) (ns : List Int), vs = [V.ref a] ∧ SqT K H a (ns.map V.int) ∧ ∀ (ns' : List Int) (p : Addr), ns'.Perm ns → ns'.Pairwise (· ≤ ·) → H p = none → Q (.ref p) (upd H p (.lst (ns'.map V.int)))
theorem cr_sortTI {X : Cx} : CallR X (.builtin "sorted") (rSortTI X.K) := by
  intro pins s σ H vs us Q I r want
  obtain ⟨a, ns, rfl, sq, q⟩ := want
  obtain ⟨items2, rel, ⟨ob, obAt, cl, epo, dat⟩, small⟩ := I.tuple sq
  rw [Vals.ref1 r]
  have numb := rel.ints
  have few : items2.length ≤ sizeLine := by rw [← rel.length]; exact small
  refine Calls.call_function_entry PyProof.Rows.kind_sorted PyProof.Rows.plain_sorted PyProof.Rows.entry_sorted (PyProof.Rows.args_sorted1 _) ?_
  unfold Builtin.«sorted»
  refine wpAny_bind (m := checkCount "sorted" 1 1 _) (wpAny_pure ?_)
  refine wpAny_bind (wpAny_collect_seq a (T := "tuple") (.inr rfl) obAt cl dat (fun h1 keep => ?_) (by rw [List.size_toArray]; exact few))
  refine wpAny_bind (wpAny_newList ?_ (by simpa using few))
  have madeAt : (h1.push (seqObj "list" items2.toArray 0)).get? h1.objs.size = some (seqObj "list" items2.toArray 0) := Heap.get?_push_size _ rfl
  have J1 : Inv X pins σ H { s with heap := h1 } := I.kept (t' := s.toks) keep
  refine wpAny_bind (wpAny_holding (wpAny_call_entry PyProof.Rows.slot_list_sort ⟨_, madeAt, rfl⟩ PyProof.Rows.entry_list_sort
    (SrtO.list_sort_ord (s := { s with heap := h1.push (seqObj "list" items2.toArray 0) }) SrtO.swo_int madeAt few (fun more => SrtO.ints_sortable numb more) fun out o1 o2 => ⟨_, rfl, ?_⟩) (PyProof.Rows.args_list_sort _)))
  obtain ⟨k1, k2, k3⟩ := SrtO.ints_out numb o1 o2
  obtain ⟨ep, outAt⟩ := PyProof.Rows.sortedHeap_at (vs := items2) (out := out.toArray) madeAt
  have long : ((out.map SrtO.iv).map V.int).length ≤ sizeLine := by
    rw [List.length_map, k2.length_eq]
    rw [List.length_map] at small
    exact small
  refine wpAny_pure ⟨_, rfl, ?_⟩
  refine ⟨.ref h1.objs.size, upd H h1.objs.size (.lst ((out.map SrtO.iv).map V.int)), J1.laid (t' := s.toks) (fun b u e => ?_) (Nat.le_refl _) ⟨long, out, ep, vals_of_ints k1, outAt⟩, rfl, q _ _ k2 k3 (J1.hok.fresh (Nat.le_refl _))⟩
  have bLt := Heap.lt_size e
  rw [PyProof.Rows.sortedHeap_old (Nat.ne_of_lt bLt) (by rw [Heap.size_push]; exact Nat.lt_succ_of_lt bLt)]
  exact Heap.get?_push_of_some _ e
end LG
/-! ### dict comprehensions whose keys are tuples -/
namespace LG
open PySem PySem.Spec PyProof.Rows L2
/-- d[t] = v by such a comprehension -/
theorem d_dictSetT {X : Cx} {pins : List (Addr × Obj)} {σ : L2.St} {H : Hp} {s : Shared} {E : Value → Shared → Prop} {D at_ : Addr} {kvs : List (List Key × V)} {k : List Key} {v : V} {u r : Value} {Q : Unit → Shared → Prop} (hu : X.A.units < cLine) (I : Inv X pins σ H s) (dict : H D = some (.dT kvs)) (key : H at_ = some (.tup (k.map kV)))
    (few : kvs.length < sizeLine) (ry : RelV (.ref at_) u) (rv : RelV v r) (h : ∀ s', Inv X pins σ (upd H D (.dT (putK kvs k v))) s' → Q () s') : wpAny (model X.prog X.w) X.A (dictSet D u r) Q E s := by
  cases (show u = Value.ref at_ from ry)
  obtain ⟨z, hd, xs, rel, dd⟩ := dt_of I.hok dict
  have most : xs.length ≤ sizeLine := by rw [← Paired.length rel]; exact z
  have long : (putK kvs k v).length ≤ sizeLine := by have := length_putK kvs k v; omega
  refine PySem.wpAny_dictSet_heap (hsz := most) hu (key_of I.hok key) dd fun h' dd' same => h _ ?_
  obtain ⟨ob, es, ep, obAt, e2, e3, e4, _, e5⟩ := dd'
  refine d_write I (by rw [dict]; exact True.intro) same ⟨ob, obAt⟩ ⟨long, hd, _, (rel.put k key rv).keeps fun c ys ec => ?_, ob, es, ep, obAt, e2, e3, e4, e5⟩
  rw [upd_ne (ne_of ec dict (fun z => nomatch z))]
  exact ec
section
variable {X : Cx}
/-- a dict comprehension whose keys are tuples of ints and texts: D the new dict -/
def tDcT (wi : TI) (g : TG) (tt : TT) (tk tv : TE) (vs : List Nat) : TE := fun σ H Q => wi σ H fun J H1 => ∀ D, H1 D = none → ∃ W : Nat → Nat → Hp → Prop, (∃ m, W 0 m (upd H1 D (.dT []))) ∧ ∀ i m H, W i m H →
  (J.stop i H ∧ Q (.ref D) H) ∨ (J.go i H ∧ ∃ Nx : Hp → Prop, (∀ H', Nx H' → ∃ m_1, m_1 < m ∧ W (i + 1) m_1 H') ∧ ∀ x H', J.yld i H x H' → g x (wipe σ vs) H' fun σ2 H2 => wipe σ2 vs = wipe σ vs ∧ tt σ2 H2 fun b H3 =>
    if b = true then tk σ2 H3 fun y H4 => tv σ2 H4 fun z H5 => ∃ kvs k at_, y = .ref at_ ∧ H5 at_ = some (.tup (k.map kV)) ∧ H5 D = some (.dT kvs) ∧ kvs.length < sizeLine ∧ Nx (upd H5 D (.dT (putK kvs k z))) else Nx H3)
theorem dcT_core {pins : List (Addr × Obj)} {s : Shared} {σ : L2.St} {H : Hp} {Q : VK} {kx vx tg iter : Expr} {ifs : List Expr} {scope : Scope} {own : List (Str × Nat)} {pos pos' : Pos} {wi : TI} {g : TG} {tt : TT} {tk tv : TE} {use : Option (Value → Sem Unit)} {Qf : Value → Shared → Prop}
    (hu : X.A.units < cLine) (hc : X.calm = true) (hN : X.N.Nodup) (I : Inv X pins σ H s) (hi : PI X tg iter wi) (ok : BlkOk X.N X.env.scope scope own)
    (hg : ∀ (s : Shared) (H : Hp) (C : Addr) (cl : List (Str × Addr)) (fp : List Addr), PG (X.blk s H scope (compEnvC scope cl C X.env) fp) tg g) (ht : ∀ (s : Shared) (H : Hp) (C : Addr) (cl : List (Str × Addr)) (fp : List Addr), PTs (X.blk s H scope (compEnvC scope cl C X.env) fp) ifs tt)
    (hk : ∀ (s : Shared) (H : Hp) (C : Addr) (cl : List (Str × Addr)) (fp : List Addr), PE (X.blk s H scope (compEnvC scope cl C X.env) fp) kx tk)
    (he : ∀ (s : Shared) (H : Hp) (C : Addr) (cl : List (Str × Addr)) (fp : List Addr), PE (X.blk s H scope (compEnvC scope cl C X.env) fp) vx tv) (hs : ∀ x, foldedSetIterable iter X.env x = pure x)
    (h : tDcT wi g tt tk tv (own.map (·.2)) σ H Q)
    (hRR : ∀ D C s' m H', Inv X pins σ H' s' → Q (.ref D) H' → s'.heap.Ns C m → FpOk X pins H' C → compPost (model X.prog X.w) X.A X.xe use Qf (.ref D) C (.ok .next) s') :
    wpAny (model X.prog X.w) X.A (comprehension (.DictComp kx vx [⟨tg, iter, ifs, 0⟩] scope pos) scope X.env pos' newDict false (eval iter X.env) use) Qf X.xe s := by
  have freeAt : ∀ y ∈ scope.names, y.2 = .free → ∃ c, X.env.cells.lookup y.1 = some c := fun y hy e => by
    rcases ok.free y hy e with k | k
    · exact I.ok.has _ (.inl k)
    · exact I.ok.has _ (.inr k)
  refine wpAny_comprehension_free (use := use) rfl hs (closure_ok freeAt) ok.kind (fun y hy e => by rw [ok.uniq y hy, e])
    (thn (hi.run pins s σ H _ I h) fun xv s1 got => thn got fun itv sh2 got2 => ?_)
  obtain ⟨it, fp, tn, J, H2, e, J2, T, tn2, far2, q⟩ := got2
  subst e
  refine wpAny_newObj_type (newEnv_comp ?_)
  generalize hD : sh2.heap.objs.size = D
  have freeD : H2 D = none := J2.hok.fresh (Nat.le_of_eq hD)
  obtain ⟨W, ⟨m_0, w_0⟩, turn⟩ := q D freeD
  generalize eq3 : ({ sh2 with heap := sh2.heap.push { cls := .type "dict", data := .dict #[] } } : Shared) = sh3
  have J3 : Inv X pins σ (upd H2 D (.dT [])) sh3 := by
    rw [← eq3]
    refine J2.laid (t' := sh2.toks) (fun b o e => Heap.get?_push_of_some _ e) (Nat.le_of_eq hD) ?_
    rw [← hD]
    exact dt_empty sh2.heap J2.big
  have heap3 : sh3.heap = sh2.heap.push { cls := .type "dict", data := .dict #[] } := by rw [← eq3]
  have size2 : ∀ b ∈ fp, b < sh2.heap.objs.size := fun b hb => by
    obtain ⟨o, e, _⟩ := T.obj _ _ tn2 b hb
    exact Heap.lt_size e
  have far3 : ∀ b ∈ fp, FpOk X pins (upd H2 D (.dT [])) b ∧ b < sh3.heap.objs.size := fun b hb => by
    have hlt := size2 b hb
    refine ⟨⟨?_, (far2 b hb).2⟩, by rw [heap3, Heap.size_push]; exact Nat.lt_succ_of_lt hlt⟩
    rw [upd_ne (by rw [← hD]; exact Nat.ne_of_lt hlt)]
    exact (far2 b hb).1
  have tn3 : tn 0 sh3.heap := T.keep _ _ _ tn2 fun b _ o e => by rw [heap3]; exact Heap.get?_push_of_some _ e
  have J4 := block_start J3 ok hN far3
  have pG := hg sh3 (upd H2 D (.dT [])) sh3.heap.objs.size (cellsFrom (sh3.heap.objs.size + 1) scope.names (cloFrom X.env.cells scope.names [])) fp
  have pT := ht sh3 (upd H2 D (.dT [])) sh3.heap.objs.size (cellsFrom (sh3.heap.objs.size + 1) scope.names (cloFrom X.env.cells scope.names [])) fp
  have pK := hk sh3 (upd H2 D (.dT [])) sh3.heap.objs.size (cellsFrom (sh3.heap.objs.size + 1) scope.names (cloFrom X.env.cells scope.names [])) fp
  have pE := he sh3 (upd H2 D (.dT [])) sh3.heap.objs.size (cellsFrom (sh3.heap.objs.size + 1) scope.names (cloFrom X.env.cells scope.names [])) fp
  show codeAny _ _ (.compStart (.DictComp kx vx [⟨tg, iter, ifs, 0⟩] scope pos) 0 (.ref it) (.ref D) (compEnvC scope (cellsFrom (sh3.heap.objs.size + 1) scope.names (cloFrom X.env.cells scope.names [])) sh3.heap.objs.size X.env)) (compPost (model X.prog X.w) X.A X.xe use Qf (.ref D) sh3.heap.objs.size) { sh3 with heap := pushCells (sh3.heap.push { cls := .type "dict", data := .dict #[] }) scope.names }
  have nonFp : ∀ b ∈ fp, (upd H2 D (.dT [])) b = none := fun b hb => (far3 b hb).1.1
  generalize eqCe : compEnvC scope (cellsFrom (sh3.heap.objs.size + 1) scope.names (cloFrom X.env.cells scope.names [])) sh3.heap.objs.size X.env = ce at J4 pG pT pK pE ⊢
  have eqL : ce.locals = sh3.heap.objs.size := by subst eqCe; rfl
  generalize eqH3 : upd H2 D (.dT []) = H3 at J3 J4 pG pT pK pE w_0 nonFp far3
  generalize eq4 : ({ sh3 with heap := pushCells (sh3.heap.push { cls := .type "dict", data := .dict #[] }) scope.names } : Shared) = sh4 at J4 ⊢
  have tn4 : tn 0 sh4.heap := T.keep _ _ _ tn3 fun b _ o e => by rw [← eq4]; exact pushCells_keeps _ _ _ _ (Heap.get?_push_of_some _ e)
  have steady : ∀ {σ' : L2.St} {H' : Hp} {s' : Shared}, Inv (X.blk sh3 H3 scope ce fp) [] σ' H' s' → (∀ b ∈ fp, H' b = none) → ∀ b ∈ fp, FpOk (X.blk sh3 H3 scope ce fp) [] H' b := fun {σ' H' s'} I' hn b hb =>
    ⟨hn b hb, (I'.ok.exf b hb).1, I'.ok.exfs b hb, .inl hb, fun x c e => (I'.ok.exf b hb).2 x c e, fun p hp => absurd (show p ∈ ([] : List (Addr × Obj)) ++ [] from hp) (by simp)⟩
  have goes : codeAny (model X.prog X.w) X.A (.compLoop (.DictComp kx vx [⟨tg, iter, ifs, 0⟩] scope pos) 0 (.ref it) (.ref D) ce) (compPost (model X.prog X.w) X.A X.xe use Qf (.ref D) sh3.heap.objs.size) sh4 := by
    refine compLoop_anyD (fun n s' => ∃ i H', Inv (X.blk sh3 H3 scope ce fp) [] (wipe σ (own.map (·.2))) H' s' ∧ tn i s'.heap ∧ (∀ b ∈ fp, H' b = none) ∧ W i n H') ?_ m_0 ⟨0, H3, J4, tn4, nonFp, w_0⟩
    rintro n sh5 ⟨i, H5, J5, tn5, non5, w_5⟩
    rcases turn i n H5 w_5 with ⟨stop, askQ⟩ | ⟨go, Nx, hNx, step⟩
    · have tDone := T.done (X.blk sh3 H3 scope ce fp) rfl rfl rfl hc i [] sh5 _ H5 (fun _ _ => False) J5 (steady J5 non5) tn5 stop
      refine thnF tDone fun r sh6 ⟨eqR, J6⟩ => ?_
      subst eqR
      have J7 : Inv X pins σ H5 sh6 := J3.call' (ch := fp) J6.os J6.base J6.hok J6.bare fun b hb => ⟨(far3 b hb).1.2.2.2.1, (far3 b hb).1.2.1, (far3 b hb).1.2.2.2.2.1, (far3 b hb).1.2.2.2.2.2⟩
      have freeC : H5 sh3.heap.objs.size = none := by
        have z : H5 ce.locals = none := J6.free
        rw [eqL] at z
        exact z
      obtain ⟨m, hn, _⟩ := J6.loc
      have hn : sh6.heap.Ns ce.locals m := hn
      rw [eqL] at hn
      exact hRR D sh3.heap.objs.size sh6 m H5 J7 askQ hn (J3.fpOk (Nat.le_refl _) freeC)
    · have tItem := T.item (X.blk sh3 H3 scope ce fp) rfl rfl rfl hc i [] sh5 _ H5 (fun _ _ => False) J5 (steady J5 non5) tn5 go
      refine thnF tItem fun r sh6 ⟨u, eqR, got6⟩ => ?_
      subst eqR
      refine thnF got6 fun _ sh7 ⟨x, H7, J7, rel7, yld7, tn7, non7⟩ => ?_
      have J7' := J7.pinned (steady J7 non7) (T.obj _ _ tn7)
      refine thnF (pG.run _ sh7 _ H7 x u _ J7' rel7 (step x H7 yld7)) fun _ sh8 ⟨σ8, H8, J8, wipe8, ask8⟩ => ?_
      refine thnF (pT.run _ sh8 σ8 H8 _ J8 ask8) fun b sh9 ⟨H9, J9, ask9⟩ => ?_
      have turnEnd : ∀ {s' : Shared} {H' : Hp}, Inv (X.blk sh3 H3 scope ce fp) ([] ++ pinsAt fp sh7.heap) σ8 H' s' → Nx H' → ∃ m, m < n ∧ ∃ i H', Inv (X.blk sh3 H3 scope ce fp) [] (wipe σ (own.map (·.2))) H' s' ∧ tn i s'.heap ∧ (∀ b ∈ fp, H' b = none) ∧ W i m H' := fun {s' H'} I' next1 => by
        obtain ⟨m_1, mLt, w_1⟩ := hNx H' next1
        have pinned1 : ∀ b ∈ fp, ∀ o, sh7.heap.get? b = some o → s'.heap.get? b = some o ∧ H' b = none := fun b hb o e =>
          let z := I'.pin (b, o) (List.mem_append_right _ (List.mem_append_right _ (mem_pinsAt hb e)))
          ⟨z.1, z.2.1⟩
        have lenEq : (wipe σ (own.map (·.2))).length = σ8.length := by rw [← wipe8, wipe_length]
        refine ⟨m_1, mLt, i + 1, H', (I'.unpinned (pins := [])).weak lenEq (fun j v e => ?_), T.keep _ _ _ tn7 fun b hb o e => (pinned1 b hb o e).1, fun b hb => ?_, w_1⟩
        · rw [← wipe8] at e
          exact (wipe_some e).1
        · obtain ⟨o, e, _⟩ := T.obj _ _ tn7 b hb
          exact (pinned1 b hb o e).2
      cases b with
      | false =>
        simp only [Bool.false_eq_true, if_false] at ask9 ⊢
        exact turnEnd J9 ask9
      | true =>
        simp only [if_true] at ask9 ⊢
        refine thnF (pK.run _ sh9 σ8 H9 _ J9 ask9) fun z sh10 ⟨yk, H10, J10, rel10, ask10⟩ => ?_
        refine thnF (pE.run _ sh10 σ8 H10 _ J10 ask10) fun z2 sh11 ⟨yv, H11, J11, rel11, kvs, k, keyAt, keyEq, key11, dict11, few11, next1⟩ => ?_
        subst keyEq
        exact d_dictSetT (X := X.blk sh3 H3 scope ce fp) hu J11 dict11 key11 few11 rel10 rel11 fun sh12 J12 => turnEnd J12 next1
  exact codeAny_compStart_dict goes (T.self X.A 0 _ _ _ tn4 goes)
theorem pe_dcT {kx vx tg iter : Expr} {ifs : List Expr} {scope : Scope} {own : List (Str × Nat)} {pos : Pos} {wi : TI} {g : TG} {tt : TT} {tk tv : TE} (hu : X.A.units < cLine) (hc : X.calm = true) (hN : X.N.Nodup) (hi : PI X tg iter wi) (ok : BlkOk X.N X.env.scope scope own)
    (hg : ∀ (s : Shared) (H : Hp) (C : Addr) (cl : List (Str × Addr)) (fp : List Addr), PG (X.blk s H scope (compEnvC scope cl C X.env) fp) tg g) (ht : ∀ (s : Shared) (H : Hp) (C : Addr) (cl : List (Str × Addr)) (fp : List Addr), PTs (X.blk s H scope (compEnvC scope cl C X.env) fp) ifs tt)
    (hk : ∀ (s : Shared) (H : Hp) (C : Addr) (cl : List (Str × Addr)) (fp : List Addr), PE (X.blk s H scope (compEnvC scope cl C X.env) fp) kx tk)
    (he : ∀ (s : Shared) (H : Hp) (C : Addr) (cl : List (Str × Addr)) (fp : List Addr), PE (X.blk s H scope (compEnvC scope cl C X.env) fp) vx tv) (hs : ∀ x, foldedSetIterable iter X.env x = pure x := by intro _; rfl) :
    PE X (.DictComp kx vx [⟨tg, iter, ifs, 0⟩] scope pos) (tDcT wi g tt tk tv (own.map (·.2))) := by
  refine ⟨fun pins s σ H Q I h => ?_⟩
  rw [arm_eval_DictComp]
  refine dcT_core hu hc hN I hi ok hg ht hk he hs h fun D C s' m H' I' q hn f => ⟨m, hn, fun h'' sb => ?_⟩
  obtain ⟨f0, f1, far2, far3, f4, f5⟩ := f
  exact ⟨.ref D, H', I'.turned (t' := s'.toks) (fun b o hb e => (sb.2 b hb).trans e) f0 f1 far3 f4 f5, rfl, q⟩
end
end LG
set_option maxHeartbeats 1000000
/-! ### set(xs), xs a list or a tuple of ints -/
namespace LG
open PySem PySem.Spec PyProof.Rows L2
section
variable {P : Program} {w : World} {A : Around} {E : Value → Shared → Prop} {s : Shared}
theorem call_set_lstI {l : Addr} {items : Array Value} (ns : List Int) {Q : Value → Shared → Prop} (cold : A.handled = none) (lst0 : s.heap.IsList l items) (numb1 : IntsAre items.toList ns) (bound1 : ns.length + 1 < scanBound)
    (h : ∀ (h' : Heap) (tk c : Nat), SetR w h' s.heap.objs.size (fun j => decide (j ∈ ns)) c → c ≤ ns.length → (∀ b o, s.heap.get? b = some o → h'.get? b = some o) → Q (.ref s.heap.objs.size) { s with heap := h', toks := tk }) :
    wpAny (model P w) A (call (.type "set") [.ref l]) Q E s := by
  have sizes : items.size = ns.length := by
    have q := IntsAre.length numb1
    rw [Array.length_toList] at q
    exact q
  obtain ⟨c, tl, mro1⟩ := F.called_set.mro
  have made1 := F.called_set.made
  have sub1 := F.called_set.sub
  refine wpAny_call (codeAny_of_tree ?_)
  show wpAny _ _ (callAny (.type "set") _) _ _ _
  refine wpAny_pure ⟨Code.quiet_builtin _ (by decide +kernel), codeAny_builtin F.entry_type_call ?_⟩
  rw [Around.under_plain (weight_type_call_type "set" [.ref l] []) rfl]
  have isT1 := F.called_set.notType
  have can1 := F.called_set.canCreate
  have tc1 := F.typeCall_set_1 (.ref l)
  repeat (any_goals (first | assumption | wp_step))

  refine codeAny_mono (code_set_led1 (.ref l) (E := E) (Q₁ := fun obj s₁ => obj = .ref s.heap.objs.size ∧ s₁ = { s with heap := s.heap.push { cls := .type "set", dict := none, data := .set #[] 0 (.fresh 0 0 (!w.params.followText "set-order")) } }) ⟨rfl, rfl⟩) fun r s₁ got1 => ?_
  cases r with
  | error e => exact got1
  | ok fl =>
    cases fl with
    | ret obj =>
      obtain ⟨rfl, rfl⟩ := got1
      have setAt1 : (s.heap.push { cls := .type "set", dict := none, data := .set #[] 0 (.fresh 0 0 (!w.params.followText "set-order")) }).get? s.heap.objs.size = some { cls := .type "set", dict := none, data := .set #[] 0 (.fresh 0 0 (!w.params.followText "set-order")) } := Heap.get?_push_size _ rfl
      have ty1 : Shared.TypeIs { s with heap := s.heap.push { cls := .type "set", dict := none, data := .set #[] 0 (.fresh 0 0 (!w.params.followText "set-order")) } } (.ref s.heap.objs.size) "set" := ⟨_, setAt1, rfl⟩
      have li1 := F.called_set.init.lookup
      have bi1 := F.called_set.init.bind (.ref s.heap.objs.size)
      repeat (any_goals (first | assumption | wp_step))

      refine codeAny_mono (codeAny_call_builtin (R := wants (fun r s₂ => r = .none ∧ ∃ h' tk c, s₂ = { s with heap := h', toks := tk } ∧ SetR w h' s.heap.objs.size (fun j => decide (j ∈ ns)) c ∧ c ≤ ns.length ∧
          (∀ b o, s.heap.get? b = some o → h'.get? b = some o)) E) F.called_set.init.plain F.entry_set_init (check_set_init_1 ty1 ?_)) fun r₂ s₂ got2 => ?_
      · obtain ⟨ol, olAt, olCls, nl, olDat⟩ := lst0
        obtain ⟨ocls, odict, odata, oslots⟩ := ol
        simp only at olCls olDat
        subst olCls; subst olDat
        have olAt2 : (s.heap.push { cls := .type "set", dict := none, data := .set #[] 0 (.fresh 0 0 (!w.params.followText "set-order")) }).get? l = some { cls := .type "list", dict := odict, data := .seq items nl, slots := oslots } := Heap.get?_push_of_some _ olAt
        have subA := F.sub_list_set
        have subB := F.sub_list_frozenset
        have neA : (Value.type "list" == Value.type "dict") = false := by decide
        have lst1 : (s.heap.push { cls := .type "set", dict := none, data := .set #[] 0 (.fresh 0 0 (!w.params.followText "set-order")) }).IsList l items := ⟨_, olAt2, rfl, nl, rfl⟩
        unfold Builtin.«set.__init__» noKeywords Builtin.Frozenset.updateFrom
        generalize hPI : pyIter = PI
        wp_walk
        subst hPI

        refine wpAny_pyIter_list lst1 ?_
        refine wpAny_bind (wpAny_runValue ?_)
        have ltS : l < s.heap.objs.size := Heap.lt_size olAt
        have cold3 : A.in1.in1.in1.handled = none := by simp [cold]
        have size1 : (s.heap.push { cls := .type "set", dict := none, data := .set #[] 0 (.fresh 0 0 (!w.params.followText "set-order")) }).objs.size = s.heap.objs.size + 1 := Heap.size_push ..
        have neI : l ≠ (s.heap.push { cls := .type "set", dict := none, data := .set #[] 0 (.fresh 0 0 (!w.params.followText "set-order")) }).objs.size := by
          rw [Heap.size_push]; exact Nat.ne_of_lt (Nat.lt_succ_of_lt ltS)
        have outS : s.heap.objs.size ∉ [(s.heap.push { cls := .type "set", dict := none, data := .set #[] 0 (.fresh 0 0 (!w.params.followText "set-order")) }).objs.size, l] := by
          rw [Heap.size_push]; simp only [List.mem_cons, List.mem_singleton, List.not_mem_nil, or_false, not_or]
          exact ⟨Nat.ne_of_lt (Nat.lt_succ_self _), Nat.ne_of_gt ltS⟩
        have vals1 : ∀ (i : Nat) (v : Value), items[i]? = some v → ∃ k t, ns[i]? = some k ∧ v = .int k t := fun i v hv => by
          have hi : i < ns.length := by rw [← sizes]; exact (Array.getElem?_eq_some_iff.mp hv).1
          obtain ⟨t, e⟩ := PyProof.Rows.IntsAre.int_at numb1 i v (by rw [Array.getElem?_toList]; exact hv)
          refine ⟨ns[i], t, List.getElem?_eq_getElem hi, ?_⟩
          rw [e, List.getD_eq_getElem?_getD, List.getElem?_eq_getElem hi] <;> rfl
        refine set_update_ints ((Walks.list cold3 _ l neI items).toS) s.heap.objs.size
          outS ns sizes bound1 vals1 (items.size - 0) 0 _ (by omega) (Nat.zero_le _)
          ⟨⟨_, Heap.get?_push_size _ rfl, rfl, rfl⟩, (lst1.push _)⟩ ?hS0 ?hR
        case hS0 =>
          have get1 : ((s.heap.push { cls := .type "set", dict := none, data := .set #[] 0 (.fresh 0 0 (!w.params.followText "set-order")) }).push { cls := .type "list_iterator", data := .fields #[.ref l, .int 0 0] }).get? s.heap.objs.size
              = some { cls := .type "set", dict := none, data := .set #[] 0 (.fresh 0 0 (!w.params.followText "set-order")) } := Heap.get?_push_of_some _ setAt1
          exact ⟨0, Nat.le_refl 0, setR_new_at get1⟩
        case hR =>
          intro s' c' meets1 few1 setR1
          obtain ⟨h', g2, d', tk', os'⟩ := s'
          have eg : g2 = s.gens := meets1.gens
          have ed : d' = s.drawn := meets1.drawn
          have eo : os' = s.os := meets1.os
          subst eg; subst ed; subst eo
          show wpAny _ _ _ _ _ _
          refine wpAny_pure ?_
          show wpAny _ _ (ret Value.none) _ _ _
          rw [sizes] at few1
          refine wpAny_pure ⟨rfl, h', tk', c', rfl, setR1, few1, fun b o e => ?_⟩
          have blt : b < s.heap.objs.size := Heap.lt_size e
          have bne : b ≠ s.heap.objs.size := Nat.ne_of_lt blt
          have bne2 : b ≠ (s.heap.push { cls := .type "set", dict := none, data := .set #[] 0 (.fresh 0 0 (!w.params.followText "set-order")) }).objs.size := by
            rw [Heap.size_push]; exact Nat.ne_of_lt (Nat.lt_succ_of_lt blt)
          exact meets1.heap b o (by simp only [List.mem_cons, List.mem_singleton, List.not_mem_nil, or_false, not_or]; exact ⟨bne, bne2⟩) (Heap.get?_push_of_some _ (Heap.get?_push_of_some _ e))

      · cases r₂ with
        | error e => exact got2
        | ok fl₂ =>
          cases fl₂ with
          | ret r =>
            obtain ⟨rfl, h', tk, c', rfl, setR1, few1, keep1⟩ := got2
            repeat (any_goals (first | assumption | wp_step))
            exact h _ _ _ setR1 few1 keep1
          | _ => exact got2.elim
    | _ => exact got1.elim

end
def rSetOfI (K : PySem.W.Frag) (w : World) : List V → Hp → VK → Prop := fun xs H Q => ∃ (a : Addr) (ns : List Int), xs = [V.ref a] ∧ (SqL K H a (ns.map V.int) ∨ SqT K H a (ns.map V.int)) ∧ ns.length ≤ 1000 ∧
  ∀ (p : Addr) (c : Nat), H p = none → c ≤ ns.length → Q (.ref p) (upd H p (SetO w p (fun j => decide (j ∈ ns)) c))
theorem cr_setOfI {X : Cx} (hc : X.calm = true) : CallR X (.type "set") (rSetOfI X.K X.w) := by
  intro pins s σ H xs us Q I r want
  obtain ⟨a, ns, rfl, hq, few, q⟩ := want
  obtain ⟨u, rfl, rx⟩ := vals1 r
  cases rx
  have cold := I.ok.hd hc
  have end_ : ∀ (h' : Heap) (tk c : Nat), SetR X.w h' s.heap.objs.size (fun j => decide (j ∈ ns)) c → c ≤ ns.length → (∀ b o, s.heap.get? b = some o → h'.get? b = some o) → EP X pins σ Q (.ref s.heap.objs.size) { s with heap := h', toks := tk } := fun h' tk c R1 hcn keep =>
    ⟨.ref s.heap.objs.size, upd H s.heap.objs.size (SetO X.w s.heap.objs.size (fun j => decide (j ∈ ns)) c), I.laid (t' := tk) keep (Nat.le_refl _) (setO_new R1), rfl, q _ _ (I.hok.fresh (Nat.le_refl _)) hcn⟩
  have bd : ns.length + 1 < scanBound := by unfold scanBound; omega
  rcases hq with hq | hq
  · obtain ⟨its, rv, pl, hz⟩ := I.list hq
    exact call_set_lstI ns cold pl.isList (ints_of_vals rv) bd end_
  · obtain ⟨its, rv, pl, hz⟩ := I.tuple hq
    exact call_set_tupI ns cold (show s.heap.IsTuple a its.toArray from pl) (ints_of_vals rv) bd end_
end LG

set_option maxHeartbeats 400000
namespace Lw
open PySem PySem.Spec PyProof.Rows L2 LG
def top (i : Nat) : Stmt := PySem.Challenge.pw_looksfar_k13_made_greatest.main.body.getD i (.Pass ⟨0, 0, 0, 0⟩)
abbrev sis_number : Stmt := top 4
abbrev sproduct_of : Stmt := top 5
abbrev schoices : Stmt := top 7
abbrev scheck_task : Stmt := top 14
abbrev slooked_up : Stmt := top 15
abbrev sis_task : Stmt := top 16
abbrev sare_labels : Stmt := top 17
abbrev s_are_inputs : Stmt := top 18
abbrev s_are_rows : Stmt := top 19
abbrev sis_row : Stmt := top 20
abbrev smade_greatest : Stmt := top 22
abbrev sgrown : Stmt := top 23
abbrev sis_good : Stmt := top 24
abbrev s_law_draws : Stmt := top 26
abbrev s_law_take : Stmt := top 27
abbrev s_law_choices : Stmt := top 28
abbrev s_law_is_good : Stmt := top 29
abbrev s_law_is_greatest : Stmt := top 30
abbrev s_law_rows : Stmt := top 31
abbrev s_law_task : Stmt := top 32
abbrev s_law_sets : Stmt := top 33
abbrev s_law_shown : Stmt := top 34
abbrev s_law_due : Stmt := top 35
abbrev s_law_refused : Stmt := top 36
abbrev s_law_all : Stmt := top 37
abbrev slaw : Stmt := top 38
/-- the built-ins that the text uses -/
structure Blt (mg : Str → Option Value) : Prop where
  abs : mg "abs" = none
  int : mg "int" = none
  len : mg "len" = none
  range : mg "range" = none
  tuple : mg "tuple" = none
  isinstance : mg "isinstance" = none
  bool : mg "bool" = none
  repr : mg "repr" = none
  list : mg "list" = none
  all : mg "all" = none
  zip : mg "zip" = none
  sorted : mg "sorted" = none
  set : mg "set" = none
  str : mg "str" = none
/-- the module's constants -/
structure Cst (mg : Str → Option Value) : Prop where
  LEAST_COLOURS : ∃ t, mg "LEAST_COLOURS" = some (.int 2 t)
  MOST_COLOURS : ∃ t, mg "MOST_COLOURS" = some (.int 4 t)
  MOST_INPUTS : ∃ t, mg "MOST_INPUTS" = some (.int 4 t)
  MOST_LABELS : ∃ t, mg "MOST_LABELS" = some (.int 60 t)
  MOST_ROWS : ∃ t, mg "MOST_ROWS" = some (.int 4000 t)
theorem _root_.L2.Room.units2 {k : Nat} {A : Around} (r : L2.Room k A) : A.units + 65 < cLine := by have := r.un; omega
/-! ### what a task is -/
def isNum (d : PyData) (lo hi : Int) : Bool := match d with
  | .int i => decide (lo ≤ i) && decide (i ≤ hi)
  | _ => false
def isInt2 : PyData → Bool
  | .int _ => true
  | .bool _ => true
  | _ => false
def isBool : PyData → Bool
  | .bool _ => true
  | _ => false
def isTup : PyData → Bool
  | .tuple _ => true
  | _ => false
theorem kit_int (d : PyData) : kitB (tyD d) "int" = some (isInt2 d) := by cases d <;> (simp only [tyD, isInt2]; decide +kernel)
theorem kit_bool (d : PyData) : kitB (tyD d) "bool" = some (isBool d) := by cases d <;> (simp only [tyD, isBool]; decide +kernel)
theorem kit_tup (d : PyData) : kitB (tyD d) "tuple" = some (isTup d) := by cases d <;> (simp only [tyD, isTup]; decide +kernel)
theorem isTup_of {d : PyData} (h : isTup d = true) : ∃ ds, d = .tuple ds := by
  cases d <;> first | exact ⟨_, rfl⟩ | cases h
/-- the number of an int -/
def numD : PyData → Int
  | .int i => i
  | _ => 0
/-- the ints of a tuple -/
def intsD : PyData → List Int
  | .tuple ds => ds.map numD
  | _ => []
theorem num_of {d : PyData} {lo hi : Int} (h : isNum d lo hi = true) : d = .int (numD d) ∧ lo ≤ numD d ∧ numD d ≤ hi := by
  cases d with
  | int i =>
    have h' : (decide (lo ≤ i) && decide (i ≤ hi)) = true := h
    rw [Bool.and_eq_true, decide_eq_true_eq, decide_eq_true_eq] at h'
    exact ⟨rfl, h'⟩
  | _ => cases h
def isRow (ls : List Int) : PyData → Bool
  | .tuple ds => decide (ds.length = ls.length) && (ds.zip ls).all fun p => isNum p.1 0 (p.2 - 1)
  | _ => false
def areRows (ls : List Int) : PyData → Bool
  | .tuple rs => (List.range rs.length).all fun at_ => isRow ls (rs.getD at_ .none) && (decide (at_ = 0) || decide (intsD (rs.getD (at_ - 1) .none) < intsD (rs.getD at_ .none)))
  | _ => false
def areInputs (ls : List Int) : PyData → Bool
  | .tuple sides => isNum (.int (sides.length : Nat)) 1 4 && sides.all (areRows ls)
  | _ => false
def prodD (ms : List PyData) : Int := ms.foldl (fun p m => p * numD m) 1
def areLabels (dD dL : PyData) : Bool := isNum dD 2 4 && match dL with
  | .tuple ms => decide (((ms.length : Nat) : Int) = numD dD) && (ms.all (isNum · 1 60) && decide (prodD ms ≤ 4000))
  | _ => false
def isWord (w : PyData) : Bool := match w with
  | .str x => decide (x = "task")
  | _ => false
def isTask : PyData → Bool
  | .tuple [w, dD, dL, dW, dB] => isWord w && (areLabels dD dL && (areInputs (intsD dL) dW && areInputs (intsD dL) dB))
  | _ => false
/-- of a right row the ints -/
theorem row_ints {ls : List Int} {d : PyData} (h : isRow ls d = true) : d = tupI (intsD d) ∧ (intsD d).length = ls.length := by
  cases d with
  | tuple ds =>
    have h' : (decide (ds.length = ls.length) && (ds.zip ls).all fun p => isNum p.1 0 (p.2 - 1)) = true := h
    rw [Bool.and_eq_true, decide_eq_true_eq] at h'
    obtain ⟨e, a⟩ := h'
    have go : ∀ (ds : List PyData) (ls : List Int), ds.length = ls.length → ((ds.zip ls).all fun p => isNum p.1 0 (p.2 - 1)) = true → ds = (ds.map numD).map PyData.int := by
      intro ds
      induction ds with
      | nil => intro _ _ _; rfl
      | cons d ds ih =>
        intro ls e a
        cases ls with
        | nil => cases e
        | cons l ls =>
          rw [List.zip_cons_cons, List.all_cons, Bool.and_eq_true] at a
          rw [List.map_cons, List.map_cons, ← ih ls (by simpa using e) a.2, ← (num_of a.1).1]
    refine ⟨?_, ?_⟩
    · show PyData.tuple ds = .tuple ((ds.map numD).map PyData.int)
      rw [← go ds ls e a]
    · show (ds.map numD).length = _
      rw [List.length_map, e]
  | _ => cases h
theorem labels_ints {ms : List PyData} (h : ms.all (isNum · 1 60) = true) : ms = (ms.map numD).map PyData.int := by
  induction ms with
  | nil => rfl
  | cons m ms ih =>
    rw [List.all_cons, Bool.and_eq_true] at h
    rw [List.map_cons, List.map_cons, ← ih h.2, ← (num_of h.1).1]
theorem prod_more (ms : List PyData) (m : PyData) : prodD (ms ++ [m]) = prodD ms * numD m := by
  unfold prodD
  rw [List.foldl_append]
  rfl
theorem prod_le : ∀ (ms : List PyData), ms.all (isNum · 1 60) = true → 1 ≤ prodD ms ∧ prodD ms ≤ 60 ^ ms.length := by
  intro ms
  have go : ∀ (ms : List PyData) (p : Int) (n : Nat), 1 ≤ p → p ≤ 60 ^ n → ms.all (isNum · 1 60) = true → 1 ≤ ms.foldl (fun p m => p * numD m) p ∧ ms.foldl (fun p m => p * numD m) p ≤ 60 ^ (n + ms.length) := by
    intro ms
    induction ms with
    | nil => exact fun p n h1 h2 _ => ⟨h1, h2⟩
    | cons m ms ih =>
      intro p n h1 h2 a
      rw [List.all_cons, Bool.and_eq_true] at a
      obtain ⟨_, l1, l2⟩ := num_of a.1
      have q1 : 1 ≤ p * numD m := by
        have := Int.mul_le_mul (show (1 : Int) ≤ p from h1) l1 (by decide) (by omega)
        omega
      have q2 : p * numD m ≤ 60 ^ (n + 1) := by
        rw [Int.pow_succ]
        exact Int.mul_le_mul h2 l2 (by omega) (by exact Int.le_of_lt (Int.pow_pos (by decide)))
      have r := ih (p * numD m) (n + 1) q1 q2 a.2
      rw [List.foldl_cons, List.length_cons, show n + (ms.length + 1) = n + 1 + ms.length by omega]
      exact r
  intro a
  have r := go ms 1 0 (by decide) (by decide) a
  rw [Nat.zero_add] at r
  exact r
section
variable {P : Program} {w : World} {K : PySem.W.Frag} {mg : Str → Option Value} {base : Heap}
theorem ints_vs {M : Addr → Prop} {H : Hp} : ∀ {ls : List Int} {xs : List V}, DnAll M K H xs (ls.map PyData.int) → xs = ls.map V.int
  | [], _, h => by
    cases h
    rfl
  | l :: ls, _, h => by
    cases h with
    | cons h1 h2 =>
      cases h1
      rw [List.map_cons, ← ints_vs h2]
theorem itz_walk {a b : Addr} {xs ys : List V} {B : (Hp → Prop) → V → Hp → Prop} {H0 : Hp} {Qd : Hp → Prop} (hl : xs.length = ys.length) (Pv : Nat → Hp → Prop) (h0 : Pv 0 H0) (hq : ∀ i H, Pv i H → SqT K H a xs ∧ SqT K H b ys)
    (hs : ∀ (i : Nat) (x y : V) (T : Addr) (H : Hp), xs[i]? = some x → ys[i]? = some y → Pv i H → H T = none → B (Pv (i + 1)) (.ref T) (upd H T (.tup [x, y]))) (hd : ∀ H, Pv xs.length H → Qd H) :
    ∃ W : Nat → Nat → Hp → Prop, (∃ m, W 0 m H0) ∧ ∀ i m H, W i m H →
      ((RZ.ItzT K a b).stop i H ∧ Qd H) ∨ ((RZ.ItzT K a b).go i H ∧ ∃ Nx : Hp → Prop, (∀ H', Nx H' → ∃ m', m' < m ∧ W (i + 1) m' H') ∧ ∀ x H', (RZ.ItzT K a b).yld i H x H' → B Nx x H') := by
  refine ⟨fun i m H => m = xs.length - i ∧ i ≤ xs.length ∧ Pv i H, ⟨xs.length, rfl, Nat.zero_le _, h0⟩, ?_⟩
  rintro i m H ⟨rfl, hi, p⟩
  obtain ⟨qx, qy⟩ := hq i H p
  by_cases hlt : i < xs.length
  · have hx : xs[i]? = some xs[i] := List.getElem?_eq_getElem hlt
    have hlt2 : i < ys.length := by omega
    have hy : ys[i]? = some ys[i] := List.getElem?_eq_getElem hlt2
    refine .inr ⟨⟨xs, ys, _, _, qx, qy, hx, hy⟩, Pv (i + 1), fun H' p' => ⟨xs.length - (i + 1), by omega, rfl, hlt, p'⟩, fun v H' y => ?_⟩
    obtain ⟨T, x', y', rfl, hT, rfl, f1, f2⟩ := y
    exact hs i x' y' T H (f1 xs qx) (f2 ys qy) p hT
  · have e : i = xs.length := by omega
    subst e
    exact .inl ⟨⟨xs, ys, qx, qy, Or.inl (Nat.le_refl _)⟩, hd H p⟩
theorem itt_walk {a : Addr} {xs : List V} {B : (Hp → Prop) → V → Hp → Prop} {H0 : Hp} {Qd : Hp → Prop} (Pv : Nat → Hp → Prop) (h0 : Pv 0 H0) (hl : ∀ i H, i ≤ xs.length → Pv i H → SqT K H a xs)
    (hs : ∀ i x H, xs[i]? = some x → Pv i H → B (Pv (i + 1)) x H) (hd : ∀ H, Pv xs.length H → Qd H) :
    ∃ W : Nat → Nat → Hp → Prop, (∃ m, W 0 m H0) ∧ ∀ i m H, W i m H →
      ((Itt K a).stop i H ∧ Qd H) ∨ ((Itt K a).go i H ∧ ∃ Nx : Hp → Prop, (∀ H', Nx H' → ∃ m', m' < m ∧ W (i + 1) m' H') ∧ ∀ x H', (Itt K a).yld i H x H' → B Nx x H') := by
  refine ⟨fun i m H => m = xs.length - i ∧ i ≤ xs.length ∧ Pv i H, ⟨xs.length, by simp, Nat.zero_le _, h0⟩, ?_⟩
  rintro i m H ⟨rfl, hi, p⟩
  have q := hl i H hi p
  by_cases hlt : i < xs.length
  · refine .inr ⟨⟨xs, xs[i], q, by simp [hlt]⟩, Pv (i + 1), fun H' p' => ⟨xs.length - (i + 1), by omega, rfl, hlt, p'⟩, fun x H' y => ?_⟩
    obtain ⟨e, y⟩ := y
    subst e
    exact hs i x _ (y xs q) p
  · have e : i = xs.length := by omega
    subst e
    exact .inl ⟨⟨xs, q, Nat.le_refl _⟩, hd H p⟩
theorem itr_walk {lo : Int} {n : Nat} {B : (Hp → Prop) → V → Hp → Prop} {H0 : Hp} {Qd : Hp → Prop} (Pv : Nat → Hp → Prop) (h0 : Pv 0 H0)
    (hs : ∀ i H, i < n → Pv i H → B (Pv (i + 1)) (.int (lo + i)) H) (hd : ∀ H, Pv n H → Qd H) :
    ∃ W : Nat → Nat → Hp → Prop, (∃ m, W 0 m H0) ∧ ∀ i m H, W i m H →
      ((Itr lo n).stop i H ∧ Qd H) ∨ ((Itr lo n).go i H ∧ ∃ Nx : Hp → Prop, (∀ H', Nx H' → ∃ m', m' < m ∧ W (i + 1) m' H') ∧ ∀ x H', (Itr lo n).yld i H x H' → B Nx x H') := by
  refine ⟨fun i m H => m = n - i ∧ i ≤ n ∧ Pv i H, ⟨n, by simp, Nat.zero_le _, h0⟩, ?_⟩
  rintro i m H ⟨rfl, hi, p⟩
  by_cases hlt : i < n
  · refine .inr ⟨hlt, Pv (i + 1), fun H' p' => ⟨n - (i + 1), by omega, rfl, hlt, p'⟩, fun x H' y => ?_⟩
    obtain ⟨e, y⟩ := y
    subst e y
    exact hs i _ hlt p
  · have e : i = n := by omega
    subst e
    exact .inl ⟨Nat.le_refl _, hd H p⟩
def spNumber (K : PySem.W.Frag) : Sp := fun vs H Q _ => ∃ (M : Addr → Prop) (x : V) (d : PyData) (lo hi : Int), vs = [x, .int lo, .int hi] ∧ Dn M K H x d ∧ Q (.bl (isNum d lo hi)) H
theorem ok_number {f : Addr} {fd : FuncData} (B : Blt mg) (F : Fun K "is_number" "is_number" sis_number f fd) : FnOk P w K mg base CX0 1 f fd ["value", "low", "high"] (spNumber K) := by
  have sc : FnScope ["value", "low", "high"] ["value", "low", "high"] (defScope sis_number) := ⟨rfl, rfl, rfl, by decide +kernel, rfl, by decide +kernel, by decide +kernel⟩
  refine F.ok sc (fun vs H Q E h => ?_) (fun cdv A outer s H vs Q E hr h => ?_)
  · obtain ⟨_, _, _, _, _, rfl, _⟩ := h
    rfl
  obtain ⟨M, x, d, lo, hi, rfl, hd, k⟩ := h
  refine ⟨_, (pss_cons (ps_if (PW.pt (pw_or (pt_not (pt_val (pe_callB call_isi (by rfl) B.isinstance (by decide +kernel) (pa_cons (pv 0) (pa_cons (pe_bltn (v := V.ty "int") (u := Value.type "int") (by rfl) B.int (by decide +kernel) rfl) pa_nil))))) (pw_or1 (pt_val (pe_callB call_isi (by rfl) B.isinstance (by decide +kernel) (pa_cons (pv 0) (pa_cons (pe_bltn (v := V.ty "bool") (u := Value.type "bool") (by rfl) B.bool (by decide +kernel) rfl) pa_nil)))))))
      (pss_one (ps_ret pe_bl))
      pss_nil)
    (pss_one (ps_ret (pe_chain op_le op_le (pv 1) (pv 0) (pv 2))))), ?_⟩
  refine ⟨_, rfl, x, _, _, _, isInt2 d, rfl, ClsV.ty _, hd.ty, kit_ty (kit_int d), _, rfl, ?_⟩
  have no : isNum d lo hi = false → Q (.bl false) H := fun e => by rw [e] at k; exact k
  cases hi2 : isInt2 d with
  | false =>
    refine iteT ?_
    refine iteT ?_
    exact no (by cases d <;> first | rfl | cases hi2)
  | true =>
    refine iteF ?_
    refine ⟨_, rfl, x, _, _, _, isBool d, rfl, ClsV.ty _, hd.ty, kit_ty (kit_bool d), _, rfl, ?_⟩
    cases hb : isBool d with
    | true =>
      refine iteT ?_
      exact no (by cases d <;> first | rfl | cases hb)
    | false =>
      refine iteF ?_
      cases d with
      | int i =>
        cases hd
        refine ⟨_, rfl, _, rfl, _, _, rfl, rfl, _, rfl, ?_⟩
        have e : isNum (.int i) lo hi = (decide (lo ≤ i) && decide (i ≤ hi)) := rfl
        rw [e] at k
        cases h1 : decide (lo ≤ i) with
        | true =>
          rw [h1] at k
          refine iteT ?_
          exact ⟨_, rfl, _, _, rfl, rfl, k⟩
        | false =>
          rw [h1] at k
          exact iteF k
      | _ => first | (simp [isInt2] at hi2; done) | (simp [isBool] at hb; done)
def spRow (K : PySem.W.Frag) : Sp := fun vs H Q _ => ∃ (M : Addr → Prop) (x : V) (d : PyData) (la : Addr) (ls : List Int), vs = [x, .ref la] ∧ Dn M K H x d ∧ SqT K H la (ls.map V.int) ∧ ls.length ≤ 1000 ∧ ∀ H', Same H H' → Q (.bl (isRow ls d)) H'
theorem ok_row {f : Addr} {fd : FuncData} (B : Blt mg) (gis_number : Has P w K mg base CX0 1 "is_number" ["value", "low", "high"] (spNumber K)) (F : Fun K "is_row" "is_row" sis_row f fd) : FnOk P w K mg base CX0 2 f fd ["row", "labels"] (spRow K) := by
  have sc : FnScope ["row", "labels", "label", "many"] ["row", "labels"] (defScope sis_row) := ⟨rfl, rfl, rfl, by decide +kernel, rfl, by decide +kernel, by decide +kernel⟩
  refine F.ok sc (fun vs H Q E h => ?_) (fun cdv A outer s H vs Q E hr h => ?_)
  · obtain ⟨_, _, _, _, _, rfl, _⟩ := h
    rfl
  obtain ⟨M, x, d, la, ls, rfl, hd, hla, hz, k⟩ := h
  refine ⟨_, (pss_cons (ps_if (PW.pt (pw_or (pt_not (pt_val (pe_callB call_isi (by rfl) B.isinstance (by decide +kernel) (pa_cons (pv 0) (pa_cons (pe_bltn (v := V.ty "tuple") (u := Value.type "tuple") (by rfl) B.tuple (by decide +kernel) rfl) pa_nil))))) (pw_or1 (pt_cmpR op_nei (pe_callB call_len_seq (by rfl) B.len (by decide +kernel) (pa_cons (pv 0) pa_nil)) (pe_callB call_len_seq (by rfl) B.len (by decide +kernel) (pa_cons (pv 1) pa_nil)) (nomark _)))))
      (pss_one (ps_ret pe_bl))
      pss_nil)
    (pss_one (ps_ret (pe_callB (cr_all rfl) (by rfl) B.all (by decide +kernel) (pa_cons (pe_lc (own := [("label", 2), ("many", 3)]) (g := gTup K 2 (gCons (gName 2) (gCons (gName 3) gNil))) (tt := tYes) rfl sc.nd (RZ.pi_zipA (by rfl) B.zip (pa_cons (pv 0) (pa_cons (pv 1) pa_nil))) (blkOk_by (N := ["row", "labels", "label", "many"]) (sc := defScope sis_row) (by decide +kernel)) (fun _ _ _ _ _ => (pg_tup rfl (pgs_cons (pg_name (i := 2) sc.nd rfl (Or.inl rfl)) (pgs_cons (pg_name (i := 3) sc.nd rfl (Or.inl rfl)) pgs_nil)))) (fun _ _ _ _ _ => pts_nil) (fun _ _ _ _ _ => (pc gis_number hr (pa_cons (pv 2) (pa_cons pe_int (pa_cons (pe_op op_sub (pv 3) pe_int) pa_nil)))))) pa_nil))))), ?_⟩
  have no : isRow ls d = false → Q (.bl false) H := fun e => by have := k H (Same.refl _); rw [e] at this; exact this
  refine ⟨_, rfl, x, _, _, _, isTup d, rfl, ClsV.ty _, hd.ty, kit_ty (kit_tup d), _, rfl, ?_⟩
  cases ht : isTup d with
  | false =>
    refine iteT ?_
    refine iteT ?_
    exact no (by cases d <;> first | rfl | cases ht)
  | true =>
    refine iteF ?_
    obtain ⟨ds, rfl⟩ := isTup_of ht
    obtain ⟨a, xs, rfl, ha, hx⟩ := dn_tup hd
    have e : isRow ls (.tuple ds) = (decide (ds.length = ls.length) && (ds.zip ls).all fun p => isNum p.1 0 (p.2 - 1)) := rfl
    refine ⟨_, rfl, a, _, rfl, .inr ha, _, rfl, la, _, rfl, .inr hla, _, _, rfl, rfl, _, rfl, ?_⟩
    by_cases hl : ds.length = ls.length
    · have e2 : ((xs.length : Nat) : Int) = (((ls.map V.int).length : Nat) : Int) := by rw [hx.len, List.length_map, hl]
      rw [decide_eq_true e2]
      refine iteF ?_
      have e3 : xs.length = (ls.map V.int).length := by rw [hx.len, List.length_map, hl]
      refine ⟨_, rfl, _, rfl, a, la, xs, _, rfl, .inr ⟨ha, hla, fun p hp => ?_⟩⟩
      refine itz_walk (K := K) e3 (fun i H' => Same H H' ∧ H' p = some (.lst ((((ds.zip ls).take i).map fun p => isNum p.1 0 (p.2 - 1)).map V.bl))) ⟨same_new hp _, upd_same⟩ (fun i H' z => ⟨z.1.seqT ha, z.1.seqT hla⟩) ?_ ?_
      · rintro i y z T H' hy hz2 ⟨sm, hH⟩ hT
        obtain ⟨dy, hdy, hyd⟩ := hx.of hy
        obtain ⟨m, hm, rfl⟩ := item_of hz2
        have st := same_new hT (.tup [y, .int m])
        refine ⟨T, _, rfl, SqT.of upd_same, rfl, _, _, rfl, _, _, rfl, rfl, rfl, ?_⟩
        refine ⟨_, rfl, _, rfl, _, _, rfl, rfl, M, y, dy, 0, m - 1, rfl, hyd.stay (Same.go (sm.trans st)), ?_⟩
        refine ⟨_, st _ _ hH, ?_, ?_, ?_⟩
        · rw [List.length_map, List.length_map, List.length_take, List.length_zip]
          exact Nat.lt_of_le_of_lt (show _ ≤ 1000 by omega) (by decide)
        · exact same_own (sm.trans st) hp _
        · have hzip : (ds.zip ls)[i]? = some (dy, m) := by rw [List.getElem?_zip_eq_some]; exact ⟨hdy, hm⟩
          rw [upd_same, take_more hzip, List.map_append, List.map_append]
          rfl
      · rintro H' ⟨sm, hH⟩
        rw [List.take_of_length_le (by rw [List.length_zip, hx.len]; omega)] at hH
        refine ⟨p, _, rfl, SqL.of hH, ?_⟩
        have q := k H' sm
        rw [e, decide_eq_true hl, Bool.true_and] at q
        rw [List.all_map]
        exact q
    · have e2 : ¬ ((xs.length : Nat) : Int) = (((ls.map V.int).length : Nat) : Int) := by rw [hx.len, List.length_map]; omega
      rw [decide_eq_false e2]
      refine iteT ?_
      refine no ?_
      rw [e, decide_eq_false hl]
      rfl
end
section
variable {P : Program} {w : World} {K : PySem.W.Frag} {mg : Str → Option Value} {base : Heap}
theorem bulk_all : ∀ {ds : List PyData}, ds.length ≤ PyData.bulkAll ds ∧ ∀ e ∈ ds, e.bulk ≤ PyData.bulkAll ds
  | [] => ⟨Nat.zero_le _, fun e h => absurd h List.not_mem_nil⟩
  | d :: ds => by
    obtain ⟨h1, h2⟩ := bulk_all (ds := ds)
    simp only [PyData.bulkAll, List.length_cons]
    refine ⟨by omega, fun e h => ?_⟩
    rcases List.mem_cons.mp h with rfl | h
    · omega
    · have := h2 e h
      omega
theorem bulk_len {ds : List PyData} {n : Nat} (h : (PyData.tuple ds).bulk ≤ n) : ds.length ≤ n := by
  simp only [PyData.bulk] at h
  exact Nat.le_trans bulk_all.1 h
theorem bulk_mem {ds : List PyData} {n : Nat} (h : (PyData.tuple ds).bulk ≤ n) {e : PyData} (m : e ∈ ds) : e.bulk ≤ n := by
  simp only [PyData.bulk] at h
  exact Nat.le_trans (bulk_all.2 e m) h
def spRows (K : PySem.W.Frag) : Sp := fun vs H Q _ => ∃ (M : Addr → Prop) (x : V) (d : PyData) (la : Addr) (ls : List Int), vs = [x, .ref la] ∧ Dn M K H x d ∧ d.bulk ≤ 1000000 ∧ SqT K H la (ls.map V.int) ∧ ls.length ≤ 1000 ∧ ∀ H', Same H H' → Q (.bl (areRows ls d)) H'
/-- what is asked of one place -/
def rowAt (ls : List Int) (rs : List PyData) (i : Nat) : Bool := isRow ls (rs.getD i .none) && (decide (i = 0) || decide (intsD (rs.getD (i - 1) .none) < intsD (rs.getD i .none)))
theorem rows_all (ls : List Int) (rs : List PyData) : areRows ls (.tuple rs) = (List.range rs.length).all (rowAt ls rs) := rfl
theorem rows_bad {ls : List Int} {rs : List PyData} {i : Nat} (hi : i < rs.length) (h : rowAt ls rs i = false) : areRows ls (.tuple rs) = false := by
  rw [rows_all, List.all_eq_false]
  exact ⟨i, List.mem_range.mpr hi, by rw [h]; decide⟩
theorem getD_of {rs : List PyData} {i : Nat} {d : PyData} (h : rs[i]? = some d) : rs.getD i .none = d := by
  simp [List.getD, h]
theorem row_val {M : Addr → Prop} {H : Hp} {v : V} {d : PyData} {ls : List Int} (h : Dn M K H v d) (r : isRow ls d = true) : ∃ a, v = .ref a ∧ SqT K H a ((intsD d).map V.int) := by
  obtain ⟨e, _⟩ := row_ints r
  rw [e] at h
  obtain ⟨a, xs, rfl, h1, h2⟩ := dn_tup h
  exact ⟨a, rfl, by rw [← ints_vs h2]; exact h1⟩
theorem ok_rows {f : Addr} {fd : FuncData} (B : Blt mg) (gis_row : Has P w K mg base CX0 2 "is_row" ["row", "labels"] (spRow K)) (F : Fun K "_are_rows" "_are_rows" s_are_rows f fd) : FnOk P w K mg base CX0 3 f fd ["rows", "labels"] (spRows K) := by
  have sc : FnScope ["rows", "labels", "at"] ["rows", "labels"] (defScope s_are_rows) := ⟨rfl, rfl, rfl, by decide +kernel, rfl, by decide +kernel, by decide +kernel⟩
  refine F.ok sc (fun vs H Q E h => ?_) (fun cdv A outer s H vs Q E hr h => ?_)
  · obtain ⟨_, _, _, _, _, rfl, _⟩ := h
    rfl
  obtain ⟨M, x, d, la, ls, rfl, hd, hb0, hla, hz, k⟩ := h
  refine ⟨_, (pss_cons (ps_if (pt_not (pt_val (pe_callB call_isi (by rfl) B.isinstance (by decide +kernel) (pa_cons (pv 0) (pa_cons (pe_bltn (v := V.ty "tuple") (u := Value.type "tuple") (by rfl) B.tuple (by decide +kernel) rfl) pa_nil)))))
      (pss_one (ps_ret pe_bl))
      pss_nil)
    (pss_cons (ps_for PassesOwn.never rfl (pi_range1 (by rfl) B.range (pa_cons (pe_callB call_len_seq (by rfl) B.len (by decide +kernel) (pa_cons (pv 0) pa_nil)) pa_nil)) (pg_name (i := 2) sc.nd rfl (Or.inl rfl))
      (pss_cons (ps_if (pt_not (pt_val (pc gis_row hr (pa_cons (pe_ix ix_tup (pv 0) (pv 2) (fun _ _ => rfl)) (pa_cons (pv 1) pa_nil)))))
        (pss_one (ps_ret pe_bl))
        pss_nil)
      (pss_one (ps_if (PW.pt (pw_and (pt_cmpR op_gt (pv 2) pe_int (nomark _)) (pw_and1 (pt_cmpR (op_geR hr.units) (pe_ix ix_tup (pv 0) (pe_op op_sub (pv 2) pe_int) (fun _ _ => rfl)) (pe_ix ix_tup (pv 0) (pv 2) (fun _ _ => rfl)) (nomark _)))))
        (pss_one (ps_ret pe_bl))
        pss_nil))))
    (pss_one (ps_ret pe_bl)))), ?_⟩
  refine ⟨_, rfl, x, _, _, _, isTup d, rfl, ClsV.ty _, hd.ty, kit_ty (kit_tup d), _, rfl, ?_⟩
  cases ht : isTup d with
  | false =>
    refine iteT ?_
    have e : areRows ls d = false := by cases d <;> first | rfl | cases ht
    rw [e] at k
    exact k H (Same.refl _)
  | true =>
    refine iteF ?_
    obtain ⟨ds, rfl⟩ := isTup_of ht
    obtain ⟨a, xs, rfl, ha, hx⟩ := dn_tup hd
    have no : ∀ {i : Nat}, i < ds.length → rowAt ls ds i = false → ∀ H', Same H H' → Q (.bl false) H' := fun hi hb H' sm => by
      have q := k H' sm
      rw [rows_bad hi hb] at q
      exact q
    refine ⟨_, rfl, a, _, rfl, .inr ha, ((xs.length : Nat) : Int), rfl, by omega, ?_, for_range (lo := 0) (n := ((xs.length : Nat) : Int).toNat) (fun i σ H' => Same H H' ∧ ∃ av : Option V, σ = [some (.ref a), some (.ref la), av] ∧ ∀ j, j < i → rowAt ls ds j = true)
      ⟨Same.refl _, none, rfl, fun j hj => absurd hj (Nat.not_lt_zero j)⟩ ?_ ?_⟩
    · have l1 := bulk_len hb0
      have l2 := hx.len
      omega
    · rintro i σ H' hi ⟨sm, av, rfl, hok⟩
      have il : i < ds.length := by rw [← hx.len]; omega
      obtain ⟨y, hy, hyd⟩ := (hx.stay (Same.go sm)).at (show ds[i]? = some ds[i] by simp [il])
      have gd : ds.getD i .none = ds[i] := getD_of (by simp [il])
      refine ⟨_, rfl, _, rfl, a, _, _, y, rfl, rfl, sm.seqT ha, at_of (j := i) (by omega) hy, _, rfl, M, y, ds[i], la, ls, rfl, hyd, sm.seqT hla, hz, fun H2 s2 => ⟨_, rfl, ?_⟩⟩
      have sm2 := sm.trans s2
      cases hir : isRow ls ds[i] with
      | false =>
        refine iteT ?_
        exact no il (by unfold rowAt; rw [gd, hir]; rfl) H2 sm2
      | true =>
        refine iteF ?_
        refine ⟨_, rfl, _, _, rfl, rfl, _, rfl, ?_⟩
        refine ite2 (fun c => ?_) (fun c => ?_)
        · have i0 := dec_t c
          have il2 : i - 1 < ds.length := by omega
          have prev := hok (i - 1) (by omega)
          have pr : isRow ls ds[i - 1] = true := by
            unfold rowAt at prev
            rw [Bool.and_eq_true, getD_of (show ds[i - 1]? = some ds[i - 1] by simp [il2])] at prev
            exact prev.1
          obtain ⟨y1, hy1, hyd1⟩ := (hx.stay (Same.go sm2)).at (show ds[i - 1]? = some ds[i - 1] by simp [il2])
          obtain ⟨b1, rfl, hb1⟩ := row_val hyd1 pr
          obtain ⟨b2, rfl, hb2⟩ := row_val (hyd.stay (Same.go s2)) hir
          refine ⟨_, rfl, _, rfl, _, _, rfl, rfl, a, _, _, _, rfl, rfl, sm2.seqT ha, at_of (j := i - 1) (by omega) hy1, _, rfl, _, rfl, a, _, _, _, rfl, rfl, sm2.seqT ha, at_of (j := i) (by omega) hy, b1, b2, _, _, rfl, rfl, hb1, hb2, _, rfl, ?_⟩
          have re : rowAt ls ds i = decide (intsD ds[i - 1] < intsD ds[i]) := by
            unfold rowAt
            rw [gd, hir, getD_of (show ds[i - 1]? = some ds[i - 1] by simp [il2]), decide_eq_false (show ¬ i = 0 by omega)]
            rfl
          cases hlt : decide (intsD ds[i - 1] < intsD ds[i]) with
          | true =>
            refine iteF ?_
            refine ⟨sm2, _, rfl, fun j hj => ?_⟩
            by_cases ej : j = i
            · rw [ej, re, hlt]
            · exact hok j (by omega)
          | false =>
            refine iteT ?_
            exact no il (by rw [re, hlt]) H2 sm2
        · have i0 := dec_f c
          obtain rfl : i = 0 := by omega
          refine ⟨sm2, _, rfl, fun j hj => ?_⟩
          obtain rfl : j = 0 := by omega
          unfold rowAt
          rw [gd, hir]
          rfl
    · rintro σ H' ⟨sm, av, rfl, hok⟩
      have q := k H' sm
      have e : areRows ls (.tuple ds) = true := by
        rw [rows_all, List.all_eq_true]
        exact fun j hj => hok j (by have := List.mem_range.mp hj; have := hx.len; omega)
      rw [e] at q
      exact q
theorem num_len {n : Nat} {lo hi : Int} : isNum (.int (n : Nat)) lo hi = (decide (lo ≤ (n : Int)) && decide ((n : Int) ≤ hi)) := rfl
def spInputs (K : PySem.W.Frag) : Sp := fun vs H Q _ => ∃ (M : Addr → Prop) (x : V) (d : PyData) (la : Addr) (ls : List Int), vs = [x, .ref la] ∧ Dn M K H x d ∧ d.bulk ≤ 1000000 ∧ SqT K H la (ls.map V.int) ∧ ls.length ≤ 1000 ∧ ∀ H', Same H H' → Q (.bl (areInputs ls d)) H'
theorem ok_inputs {f : Addr} {fd : FuncData} (B : Blt mg) (C : Cst mg) (gis_number : Has P w K mg base CX0 1 "is_number" ["value", "low", "high"] (spNumber K)) (g_are_rows : Has P w K mg base CX0 3 "_are_rows" ["rows", "labels"] (spRows K))
    (F : Fun K "_are_inputs" "_are_inputs" s_are_inputs f fd) : FnOk P w K mg base CX0 4 f fd ["allowed", "labels"] (spInputs K) := by
  have sc : FnScope ["allowed", "labels", "rows"] ["allowed", "labels"] (defScope s_are_inputs) := ⟨rfl, rfl, rfl, by decide +kernel, rfl, by decide +kernel, by decide +kernel⟩
  obtain ⟨t1, hMOST_INPUTS⟩ := C.MOST_INPUTS
  refine F.ok sc (fun vs H Q E h => ?_) (fun cdv A outer s H vs Q E hr h => ?_)
  · obtain ⟨_, _, _, _, _, rfl, _⟩ := h
    rfl
  obtain ⟨M, x, d, la, ls, rfl, hd, hb0, hla, hz, k⟩ := h
  refine ⟨_, (pss_cons (ps_if (PW.pt (pw_or (pt_not (pt_val (pe_callB call_isi (by rfl) B.isinstance (by decide +kernel) (pa_cons (pv 0) (pa_cons (pe_bltn (v := V.ty "tuple") (u := Value.type "tuple") (by rfl) B.tuple (by decide +kernel) rfl) pa_nil))))) (pw_or1 (pt_not (pt_val (pc gis_number hr (pa_cons (pe_callB call_len_seq (by rfl) B.len (by decide +kernel) (pa_cons (pv 0) pa_nil)) (pa_cons pe_int (pa_cons (pe_glob (v := V.int _) rfl hMOST_INPUTS ⟨_, rfl⟩) pa_nil)))))))))
      (pss_one (ps_ret pe_bl))
      pss_nil)
    (pss_one (ps_ret (pe_callB (cr_all rfl) (by rfl) B.all (by decide +kernel) (pa_cons (pe_lc (own := [("rows", 2)]) (g := gName 2) (tt := tYes) rfl sc.nd (pi_tup (pv 0)) (blkOk_by (N := ["allowed", "labels", "rows"]) (sc := defScope s_are_inputs) (by decide +kernel)) (fun _ _ _ _ _ => pg_name (i := 2) sc.nd rfl (Or.inl rfl)) (fun _ _ _ _ _ => pts_nil) (fun _ _ _ _ _ => (pc g_are_rows hr (pa_cons (pv 2) (pa_cons (pv 1) pa_nil))))) pa_nil))))), ?_⟩
  refine ⟨_, rfl, x, _, _, _, isTup d, rfl, ClsV.ty _, hd.ty, kit_ty (kit_tup d), _, rfl, ?_⟩
  cases ht : isTup d with
  | false =>
    refine iteT ?_
    refine iteT ?_
    have e : areInputs ls d = false := by cases d <;> first | rfl | cases ht
    rw [e] at k
    exact k H (Same.refl _)
  | true =>
    refine iteF ?_
    obtain ⟨ds, rfl⟩ := isTup_of ht
    obtain ⟨a, xs, rfl, ha, hx⟩ := dn_tup hd
    have e : areInputs ls (.tuple ds) = (isNum (.int (ds.length : Nat)) 1 4 && ds.all (areRows ls)) := rfl
    refine ⟨_, rfl, a, _, rfl, .inr ha, M, _, .int ((xs.length : Nat) : Int), 1, 4, rfl, .int _, _, rfl, ?_⟩
    rw [hx.len]
    rw [e] at k
    cases hn : isNum (.int (ds.length : Nat)) 1 4 with
    | false =>
      refine iteT ?_
      rw [hn] at k
      exact k H (Same.refl _)
    | true =>
      refine iteF ?_
      rw [hn, Bool.true_and] at k
      refine ⟨_, rfl, a, rfl, ⟨_, ha⟩, fun p hp => ?_⟩
      refine itt_walk (K := K) (a := a) (xs := xs) (fun i H' => Same H H' ∧ H' p = some (.lst (((ds.take i).map (areRows ls)).map V.bl))) ⟨same_new hp _, upd_same⟩ (fun i H' _ z => z.1.seqT ha) ?_ ?_
      · rintro i y H' hy ⟨sm, hH⟩
        obtain ⟨dy, hdy, hyd⟩ := hx.of hy
        have few := bulk_mem hb0 (List.mem_of_getElem? hdy)
        have il := bulk_len hb0
        refine ⟨rfl, ?_⟩
        refine ⟨_, rfl, _, rfl, M, y, dy, la, ls, rfl, hyd.stay (Same.go sm), few, sm.seqT hla, hz, fun H2 s2 => ?_⟩
        refine ⟨_, s2 _ _ hH, ?_, same_own (sm.trans s2) hp _, ?_⟩
        · rw [List.length_map, List.length_map, List.length_take]
          exact Nat.lt_of_le_of_lt (show _ ≤ 1000000 by omega) (by decide)
        · rw [upd_same, take_more hdy, List.map_append, List.map_append]
          rfl
      · rintro H' ⟨sm, hH⟩
        rw [List.take_of_length_le (by rw [hx.len]; exact Nat.le_refl _)] at hH
        refine ⟨p, _, rfl, SqL.of hH, ?_⟩
        rw [List.all_map]
        exact k H' sm
theorem pow60 : ∀ n, n < 5 → (60 : Int) ^ n ≤ 60 ^ 4 := by decide
theorem labels_tup {D : Int} {ms : List PyData} (h : isNum (.int D) 2 4 = true) : areLabels (.int D) (.tuple ms) = (decide (((ms.length : Nat) : Int) = D) && (ms.all (isNum · 1 60) && decide (prodD ms ≤ 4000))) := by
  unfold areLabels
  rw [h, Bool.true_and]
  rfl
theorem labels_no {d dL : PyData} (h : isTup dL = false) : areLabels d dL = false := by
  unfold areLabels
  cases dL <;> first | exact Bool.and_false _ | cases h
def spProduct (K : PySem.W.Frag) : Sp := fun vs H Q _ => ∃ (a : Addr) (ms : List PyData), vs = [.ref a] ∧ SqT K H a ((ms.map numD).map V.int) ∧ ms.all (isNum · 1 60) = true ∧ ms.length ≤ 4 ∧ Q (.int (prodD ms)) H
theorem ok_product {f : Addr} {fd : FuncData} (F : Fun K "product_of" "product_of" sproduct_of f fd) : FnOk P w K mg base CX0 1 f fd ["numbers"] (spProduct K) := by
  have sc : FnScope ["numbers", "product", "number"] ["numbers"] (defScope sproduct_of) := ⟨rfl, rfl, rfl, by decide +kernel, rfl, by decide +kernel, by decide +kernel⟩
  refine F.ok sc (fun vs H Q E h => ?_) (fun cdv A outer s H vs Q E hr h => ?_)
  · obtain ⟨_, _, rfl, _⟩ := h
    rfl
  obtain ⟨a, ms, rfl, ha, hall, h4, k⟩ := h
  refine ⟨_, (pss_cons (ps_set (i := 1) sc.nd rfl (Or.inl rfl) pe_int)
    (pss_cons (ps_for PassesOwn.never rfl (pi_tup (pv 0)) (pg_name (i := 2) sc.nd rfl (Or.inl rfl))
      (pss_one (ps_set (i := 1) sc.nd rfl (Or.inl rfl) (pe_op op_mul (pv 1) (pv 2)))))
    (pss_one (ps_ret (pv 1))))), ?_⟩
  refine ⟨_, rfl, a, rfl, ⟨_, ha⟩, for_tup (K := K) (a := a) (xs := (ms.map numD).map V.int) (fun i σ H' => H' = H ∧ ∃ mv : Option V, σ = [some (.ref a), some (.int (prodD (ms.take i))), mv])
    ⟨rfl, none, rfl⟩ (fun i σ H' _ z => by rw [z.1]; exact ha) ?_ ?_⟩
  · rintro i v σ H' hv ⟨rfl, mv, rfl⟩
    obtain ⟨n, hn, rfl⟩ := item_of hv
    obtain ⟨dm, hdm, rfl⟩ : ∃ dm, ms[i]? = some dm ∧ numD dm = n := by
      rw [List.getElem?_map] at hn
      cases e : ms[i]? with
      | none => rw [e] at hn; cases hn
      | some z => rw [e] at hn; exact ⟨z, rfl, Option.some.inj hn⟩
    have hdm60 := List.all_eq_true.mp hall dm (List.mem_of_getElem? hdm)
    obtain ⟨em, m1, m60⟩ := num_of hdm60
    have hall2 : (ms.take i).all (isNum · 1 60) = true := List.all_eq_true.mpr fun x hx => List.all_eq_true.mp hall x (List.mem_of_mem_take hx)
    obtain ⟨p1, p2⟩ := prod_le _ hall2
    have p3 : prodD (ms.take i) ≤ 60 ^ 4 := Int.le_trans p2 (by
      have h4 : (ms.take i).length ≤ 4 := by rw [List.length_take]; omega
      exact pow60 _ (by omega))
    refine ⟨_, rfl, _, rfl, _, _, rfl, rfl, .inr (by omega), ?_⟩
    refine ⟨rfl, some (.int (numD dm)), ?_⟩
    rw [take_more hdm, prod_more]
    rfl
  · rintro σ H' ⟨rfl, mv, rfl⟩
    rw [List.take_of_length_le (by rw [List.length_map, List.length_map]; exact Nat.le_refl _)]
    exact ⟨_, rfl, k⟩
def spLabels (K : PySem.W.Frag) : Sp := fun vs H Q _ => ∃ (M : Addr → Prop) (x y : V) (dD dL : PyData), vs = [x, y] ∧ Dn M K H x dD ∧ Dn M K H y dL ∧ ∀ H', Same H H' → Q (.bl (areLabels dD dL)) H'
theorem ok_labels {f : Addr} {fd : FuncData} (B : Blt mg) (C : Cst mg) (gis_number : Has P w K mg base CX0 1 "is_number" ["value", "low", "high"] (spNumber K)) (gproduct_of : Has P w K mg base CX0 1 "product_of" ["numbers"] (spProduct K))
    (F : Fun K "are_labels" "are_labels" sare_labels f fd) : FnOk P w K mg base CX0 2 f fd ["D", "labels"] (spLabels K) := by
  have sc : FnScope ["D", "labels", "many"] ["D", "labels"] (defScope sare_labels) := ⟨rfl, rfl, rfl, by decide +kernel, rfl, by decide +kernel, by decide +kernel⟩
  obtain ⟨t1, hLEAST_COLOURS⟩ := C.LEAST_COLOURS
  obtain ⟨t2, hMOST_COLOURS⟩ := C.MOST_COLOURS
  obtain ⟨t3, hMOST_LABELS⟩ := C.MOST_LABELS
  obtain ⟨t4, hMOST_ROWS⟩ := C.MOST_ROWS
  refine F.ok sc (fun vs H Q E h => ?_) (fun cdv A outer s H vs Q E hr h => ?_)
  · obtain ⟨_, _, _, _, _, rfl, _⟩ := h
    rfl
  obtain ⟨M, x, y, dD, dL, rfl, hD, hL, k⟩ := h
  refine ⟨_, (pss_cons (ps_if (pt_not (pt_val (pc gis_number hr (pa_cons (pv 0) (pa_cons (pe_glob (v := V.int _) rfl hLEAST_COLOURS ⟨_, rfl⟩) (pa_cons (pe_glob (v := V.int _) rfl hMOST_COLOURS ⟨_, rfl⟩) pa_nil))))))
      (pss_one (ps_ret pe_bl))
      pss_nil)
    (pss_cons (ps_if (PW.pt (pw_or (pt_not (pt_val (pe_callB call_isi (by rfl) B.isinstance (by decide +kernel) (pa_cons (pv 1) (pa_cons (pe_bltn (v := V.ty "tuple") (u := Value.type "tuple") (by rfl) B.tuple (by decide +kernel) rfl) pa_nil))))) (pw_or1 (pt_cmpR op_nei (pe_callB call_len_seq (by rfl) B.len (by decide +kernel) (pa_cons (pv 1) pa_nil)) (pv 0) (nomark _)))))
      (pss_one (ps_ret pe_bl))
      pss_nil)
    (pss_cons (ps_if (pt_not (pt_val (pe_callB (cr_all rfl) (by rfl) B.all (by decide +kernel) (pa_cons (pe_lc (own := [("many", 2)]) (g := gName 2) (tt := tYes) rfl sc.nd (pi_tup (pv 1)) (blkOk_by (N := ["D", "labels", "many"]) (sc := defScope sare_labels) (by decide +kernel)) (fun _ _ _ _ _ => pg_name (i := 2) sc.nd rfl (Or.inl rfl)) (fun _ _ _ _ _ => pts_nil) (fun _ _ _ _ _ => (pc gis_number hr (pa_cons (pv 2) (pa_cons pe_int (pa_cons (pe_glob (v := V.int _) rfl hMOST_LABELS ⟨_, rfl⟩) pa_nil)))))) pa_nil))))
      (pss_one (ps_ret pe_bl))
      pss_nil)
    (pss_one (ps_ret (pe_cmpR op_le (pc gproduct_of hr (pa_cons (pv 1) pa_nil)) (pe_glob (v := V.int _) rfl hMOST_ROWS ⟨_, rfl⟩) (nomark _))))))), ?_⟩
  refine ⟨_, rfl, M, x, dD, 2, 4, rfl, hD, _, rfl, ?_⟩
  have no : areLabels dD dL = false → ∀ H', Same H H' → Q (.bl false) H' := fun e H' sm => by have := k H' sm; rw [e] at this; exact this
  cases hn : isNum dD 2 4 with
  | false =>
    refine iteT ?_
    refine no ?_ H (Same.refl _)
    unfold areLabels
    rw [hn]
    rfl
  | true =>
    refine iteF ?_
    obtain ⟨eD, l2, l4⟩ := num_of hn
    generalize numD dD = D at eD l2 l4
    subst eD
    obtain rfl := dn_int hD
    refine ⟨_, rfl, y, _, _, _, isTup dL, rfl, ClsV.ty _, hL.ty, kit_ty (kit_tup dL), _, rfl, ?_⟩
    cases ht : isTup dL with
    | false =>
      refine iteT ?_
      refine iteT ?_
      exact no (labels_no ht) H (Same.refl _)
    | true =>
      refine iteF ?_
      obtain ⟨ms, rfl⟩ := isTup_of ht
      have e1 : areLabels (.int D) (.tuple ms) = (decide (((ms.length : Nat) : Int) = D) && (ms.all (isNum · 1 60) && decide (prodD ms ≤ 4000))) := labels_tup hn
      rw [e1] at k no
      obtain ⟨a, xs, rfl, ha, hx⟩ := dn_tup hL
      refine ⟨_, rfl, a, _, rfl, .inr ha, _, rfl, _, _, rfl, rfl, _, rfl, ?_⟩
      rw [hx.len]
      cases hl : decide (((ms.length : Nat) : Int) = D) with
      | false =>
        refine iteT ?_
        exact no (by rw [hl]; rfl) H (Same.refl _)
      | true =>
        refine iteF ?_
        have hl' := dec_t hl
        rw [hl, Bool.true_and] at k no
        refine ⟨_, rfl, a, rfl, ⟨_, ha⟩, fun p hp => ?_⟩
        refine itt_walk (K := K) (a := a) (xs := xs) (fun i H' => Same H H' ∧ H' p = some (.lst (((ms.take i).map (isNum · 1 60)).map V.bl))) ⟨same_new hp _, upd_same⟩ (fun i H' _ z => z.1.seqT ha) ?_ ?_
        · rintro i v H' hv ⟨sm, hH⟩
          obtain ⟨dm, hdm, hvd⟩ := hx.of hv
          refine ⟨rfl, ?_⟩
          refine ⟨_, rfl, M, v, dm, 1, 60, rfl, hvd.stay (Same.go sm), ?_⟩
          refine ⟨_, hH, ?_, same_own sm hp _, ?_⟩
          · rw [List.length_map, List.length_map, List.length_take]
            exact Nat.lt_of_le_of_lt (show _ ≤ 1000 by omega) (by decide)
          · rw [upd_same, take_more hdm, List.map_append, List.map_append]
            rfl
        · rintro H' ⟨sm, hH⟩
          rw [List.take_of_length_le (by rw [hx.len]; exact Nat.le_refl _)] at hH
          refine ⟨p, _, rfl, SqL.of hH, ?_⟩
          rw [List.all_map]
          have e2 : ms.all (id ∘ (isNum · 1 60)) = ms.all (isNum · 1 60) := rfl
          refine ⟨_, rfl, ?_⟩
          rw [e2]
          cases hall : ms.all (isNum · 1 60) with
          | false =>
            refine iteT ?_
            exact no (by rw [hall]; rfl) H' sm
          | true =>
            refine iteF ?_
            rw [hall, Bool.true_and] at k
            have hms := labels_ints hall
            have ha2 : SqT K H' a ((ms.map numD).map V.int) := by
              have q := hx
              rw [hms] at q
              rw [← ints_vs q]
              exact sm.seqT ha
            exact ⟨_, rfl, a, ms, rfl, ha2, hall, by omega, _, _, rfl, rfl, k H' sm⟩
end
section
variable {P : Program} {w : World} {K : PySem.W.Frag} {mg : Str → Option Value} {base : Heap}
/-- the first part may be held against a text -/
def WordOk (d : PyData) : Prop := ∀ w r, d = .tuple (w :: r) → r.length = 4 → SeqAt.shaped w = true
def spTaskB (K : PySem.W.Frag) : Sp := fun vs H Q _ => ∃ (M : Addr → Prop) (x : V) (d : PyData), vs = [x] ∧ Dn M K H x d ∧ d.bulk ≤ 1000000 ∧ WordOk d ∧ ∀ H', Same H H' → Q (.bl (isTask d)) H'
theorem shaped_dp {M : Addr → Prop} {H : Hp} {v : V} {d : PyData} (h : Dn M K H v d) (s : SeqAt.shaped d = true) : Dp K H v d := Dn.dp d (PyData.hasDict_of_canLay d (SeqAt.canLay_of_shaped s)) h
theorem word_eqv (d : PyData) (x : Str) : PyData.eqv d (.str x) = match d with
    | .str y => decide (y = x)
    | _ => false := by
  cases d with
  | str y =>
    simp only [PyData.eqv]
    by_cases h : y = x
    · rw [decide_eq_true h, h]
      exact beq_self_eq_true x
    · rw [decide_eq_false h]
      exact beq_eq_false_iff_ne.mpr h
  | _ => simp [PyData.eqv]
theorem is_word (d : PyData) : PyData.eqv d (.str "task") = isWord d := by
  rw [word_eqv]
  rfl
theorem labels_of {dD dL : PyData} (h : areLabels dD dL = true) : ∃ D, dD = .int D ∧ 2 ≤ D ∧ D ≤ 4 ∧ dL = tupI (intsD dL) ∧ (((intsD dL).length : Nat) : Int) = D := by
  unfold areLabels at h
  rw [Bool.and_eq_true] at h
  obtain ⟨h1, h2⟩ := h
  obtain ⟨e, l, u⟩ := num_of h1
  cases dL with
  | tuple ms =>
    have h2' : (decide (((ms.length : Nat) : Int) = numD dD) && (ms.all (isNum · 1 60) && decide (prodD ms ≤ 4000))) = true := h2
    rw [Bool.and_eq_true, Bool.and_eq_true, decide_eq_true_eq] at h2'
    refine ⟨numD dD, e, l, u, ?_, ?_⟩
    · show PyData.tuple ms = .tuple ((ms.map numD).map PyData.int)
      rw [← labels_ints h2'.2.1]
    · show (((ms.map numD).length : Nat) : Int) = _
      rw [List.length_map]
      exact h2'.1
  | _ => cases h2
theorem ok_taskb {f : Addr} {fd : FuncData} (B : Blt mg) (gare_labels : Has P w K mg base CX0 2 "are_labels" ["D", "labels"] (spLabels K)) (g_are_inputs : Has P w K mg base CX0 4 "_are_inputs" ["allowed", "labels"] (spInputs K))
    (F : Fun K "is_task" "is_task" sis_task f fd) : FnOk P w K mg base CX0 5 f fd ["task"] (spTaskB K) := by
  have sc : FnScope ["task", "_", "D", "labels", "white", "black"] ["task"] (defScope sis_task) := ⟨rfl, rfl, rfl, by decide +kernel, rfl, by decide +kernel, by decide +kernel⟩
  refine F.ok sc (fun vs H Q E h => ?_) (fun cdv A outer s H vs Q E hr h => ?_)
  · obtain ⟨_, _, _, rfl, _⟩ := h
    rfl
  obtain ⟨M, x, d, rfl, hd, hb, hw, k⟩ := h
  refine ⟨_, (pss_cons (ps_if (PW.pt (pw_or (pt_not (pt_val (pe_callB call_isi (by rfl) B.isinstance (by decide +kernel) (pa_cons (pv 0) (pa_cons (pe_bltn (v := V.ty "tuple") (u := Value.type "tuple") (by rfl) B.tuple (by decide +kernel) rfl) pa_nil))))) (pw_or (pt_cmpR op_nei (pe_callB call_len_seq (by rfl) B.len (by decide +kernel) (pa_cons (pv 0) pa_nil)) pe_int (nomark _)) (pw_or1 (pt_cmpR (op_neD hr.units) (pe_ix ix_tup (pv 0) pe_int (fun _ _ => rfl)) pe_str (nomark _))))))
      (pss_one (ps_ret pe_bl))
      pss_nil)
    (pss_cons (ps_asg (pv 0) (pg_tup rfl (pgs_cons (pg_name (i := 1) sc.nd rfl (Or.inl rfl)) (pgs_cons (pg_name (i := 2) sc.nd rfl (Or.inl rfl)) (pgs_cons (pg_name (i := 3) sc.nd rfl (Or.inl rfl)) (pgs_cons (pg_name (i := 4) sc.nd rfl (Or.inl rfl)) (pgs_cons (pg_name (i := 5) sc.nd rfl (Or.inl rfl)) pgs_nil)))))))
    (pss_cons (ps_if (pt_not (pt_val (pc gare_labels hr (pa_cons (pv 2) (pa_cons (pv 3) pa_nil)))))
      (pss_one (ps_ret pe_bl))
      pss_nil)
    (pss_one (ps_ret (pe_and (pc g_are_inputs hr (pa_cons (pv 4) (pa_cons (pv 3) pa_nil))) (pe_one (pc g_are_inputs hr (pa_cons (pv 5) (pa_cons (pv 3) pa_nil)))))))))), ?_⟩
  have no : isTask d = false → Q (.bl false) H := fun e => by have := k H (Same.refl _); rw [e] at this; exact this
  refine ⟨_, rfl, x, _, _, _, isTup d, rfl, ClsV.ty _, hd.ty, kit_ty (kit_tup d), _, rfl, ?_⟩
  cases ht : isTup d with
  | false =>
    refine iteT ?_
    refine iteT ?_
    exact no (by cases d <;> first | rfl | cases ht)
  | true =>
    refine iteF ?_
    obtain ⟨ds, rfl⟩ := isTup_of ht
    obtain ⟨a, xs, rfl, ha, hx⟩ := dn_tup hd
    refine ⟨_, rfl, a, _, rfl, .inr ha, _, _, rfl, rfl, _, rfl, ?_⟩
    by_cases hl : ds.length = 5
    · obtain ⟨d0, d1, d2, d3, d4, rfl⟩ : ∃ d0 d1 d2 d3 d4, ds = [d0, d1, d2, d3, d4] := by
        match ds, hl with
        | [d0, d1, d2, d3, d4], _ => exact ⟨_, _, _, _, _, rfl⟩
      have e5 : ((xs.length : Nat) : Int) = 5 := by rw [hx.len]; rfl
      rw [decide_eq_true e5]
      refine iteF ?_
      cases hx with
      | @cons v0 _ _ _ h0 hx =>
      cases hx with
      | @cons v1 _ _ _ h1 hx =>
      cases hx with
      | @cons v2 _ _ _ h2 hx =>
      cases hx with
      | @cons v3 _ _ _ h3 hx =>
      cases hx with
      | @cons v4 _ _ _ h4 hx =>
      cases hx
      have sh := hw d0 _ rfl rfl
      have eT : isTask (.tuple [d0, d1, d2, d3, d4]) = (isWord d0 && (areLabels d1 d2 && (areInputs (intsD d2) d3 && areInputs (intsD d2) d4))) := rfl
      rw [eT] at k no
      refine ⟨_, rfl, a, _, _, _, rfl, rfl, ha, at_of (j := 0) rfl rfl, _, _, shaped_dp h0 sh, .str "task", sh, by decide +kernel, _, rfl, ?_⟩
      rw [is_word]
      cases hwd : isWord d0 with
      | false =>
        refine iteT ?_
        exact no (by rw [hwd]; rfl)
      | true =>
        refine iteF ?_
        rw [hwd, Bool.true_and] at k no
        refine ⟨_, rfl, a, _, rfl, ha, rfl, _, _, rfl, _, _, rfl, _, _, rfl, _, _, rfl, _, _, rfl, rfl, ?_⟩
        refine ⟨_, rfl, _, rfl, M, v1, v2, d1, d2, rfl, h1, h2, fun H0 s0 => ⟨_, rfl, ?_⟩⟩
        cases hlb : areLabels d1 d2 with
        | false =>
          refine iteT ?_
          have q := k H0 s0
          rw [hlb] at q
          exact q
        | true =>
          refine iteF ?_
          rw [hlb, Bool.true_and] at k no
          obtain ⟨D, rfl, D2, D4, e2, e2l⟩ := labels_of hlb
          have h2' := h2
          rw [e2] at h2'
          obtain ⟨la, lxs, rfl, hla, hlx⟩ := dn_tup h2'
          rw [ints_vs hlx] at hla
          have few : (intsD d2).length ≤ 1000 := by omega
          refine ⟨_, rfl, _, rfl, M, v3, d3, la, _, rfl, h3.stay (Same.go s0), bulk_mem hb (by simp), s0.seqT hla, few, fun H1 s01 => ?_⟩
          have s1 := s0.trans s01
          refine ⟨_, rfl, ?_⟩
          cases hw3 : areInputs (intsD d2) d3 with
          | false =>
            refine iteF ?_
            have q := k H1 s1
            rw [hw3] at q
            exact q
          | true =>
            refine iteT ?_
            refine ⟨_, rfl, _, rfl, M, v4, d4, la, _, rfl, h4.stay (Same.go s1), bulk_mem hb (by simp), s1.seqT hla, few, fun H2 s2 => ?_⟩
            have q := k H2 (s1.trans s2)
            rw [hw3] at q
            exact q
    · have e5 : ¬ ((xs.length : Nat) : Int) = 5 := by rw [hx.len]; omega
      rw [decide_eq_false e5]
      refine iteT ?_
      refine iteT ?_
      refine no ?_
      match ds, hl with
      | [], _ => rfl
      | [_], _ => rfl
      | [_, _], _ => rfl
      | [_, _, _], _ => rfl
      | [_, _, _, _], _ => rfl
      | [_, _, _, _, _], hl => exact absurd rfl hl
      | _ :: _ :: _ :: _ :: _ :: _ :: _, _ => rfl
def spCheckT (K : PySem.W.Frag) (C : Addr) : Sp := fun vs H Q E => ∃ (M : Addr → Prop) (x : V) (d : PyData), vs = [x] ∧ Dn M K H x d ∧ d.bulk ≤ 1000000 ∧ WordOk d ∧ (isTask d = true → ∀ H', Same H H' → Q .non H') ∧ (isTask d = false → ∀ H', Same H H' → E (.ref C) none H')
theorem ok_checkt {C : Addr} {f : Addr} {fd : FuncData} (eBadTask : Err K mg "BadTask" C) (gis_task : Has P w K mg base CX0 5 "is_task" ["task"] (spTaskB K)) (F : Fun K "check_task" "check_task" scheck_task f fd) : FnOk P w K mg base (L2.CX P w) 6 f fd ["task"] (spCheckT K C) := by
  have sc : FnScope ["task"] ["task"] (defScope scheck_task) := ⟨rfl, rfl, rfl, by decide +kernel, rfl, by decide +kernel, by decide +kernel⟩
  refine F.okX sc (fun vs H Q E h => ?_) (fun cdv A outer s H vs Q E hr h => ?_)
  · obtain ⟨_, _, _, rfl, _⟩ := h
    rfl
  obtain ⟨M, x, d, rfl, hd, hb, hw, kt, kf⟩ := h
  refine ⟨_, (pss_one (ps_if (pt_not (pt_val (pc gis_task hr (pa_cons (pv 0) pa_nil))))
      (pss_one (ps_raise rfl (takes_of rfl rfl rfl rfl) (pmk_own PySem.F.excBase_ValueError eBadTask.xi eBadTask.g eBadTask.k (raises_own eBadTask.b eBadTask.t) rfl)))
      pss_nil)), ?_⟩
  refine ⟨_, rfl, M, x, d, rfl, hd, hb, hw, fun H' sm => ⟨_, rfl, ?_⟩⟩
  cases hn : isTask d with
  | true =>
    refine iteF ?_
    exact kt hn H' sm
  | false =>
    refine iteT ?_
    exact kf hn H' sm
/-- the parts of a task -/
theorem task_parts {d : PyData} (h : isTask d = true) : ∃ D ls dW dB, d = .tuple [.str "task", .int D, tupI ls, dW, dB] ∧ 2 ≤ D ∧ D ≤ 4 ∧ ((ls.length : Nat) : Int) = D ∧ areLabels (.int D) (tupI ls) = true ∧ areInputs ls dW = true ∧ areInputs ls dB = true := by
  cases d with
  | tuple ds =>
    match ds, h with
    | [w, dD, dL, dW, dB], h =>
      have h' : (isWord w && (areLabels dD dL && (areInputs (intsD dL) dW && areInputs (intsD dL) dB))) = true := h
      rw [Bool.and_eq_true, Bool.and_eq_true, Bool.and_eq_true] at h'
      obtain ⟨h1, h2, h3, h4⟩ := h'
      obtain ⟨D, rfl, D2, D4, e, el⟩ := labels_of h2
      have ew : w = .str "task" := by
        cases w with
        | str x =>
          have : decide (x = "task") = true := h1
          rw [dec_t this]
        | _ => cases h1
      rw [e] at h2
      exact ⟨D, intsD dL, dW, dB, by rw [ew, ← e], D2, D4, el, h2, h3, h4⟩
  | _ => cases h
end
section
/-! rows of ints -/
theorem eqv_all_i : ∀ a b : List Int, PyData.eqvAll (a.map PyData.int) (b.map PyData.int) = decide (a = b)
  | [], [] => by simp [PyData.eqvAll]
  | [], _ :: _ => by simp [PyData.eqvAll]
  | _ :: _, [] => by simp [PyData.eqvAll]
  | x :: a, y :: b => by
    rw [List.map_cons, List.map_cons, PyData.eqvAll, eqv_all_i a b]
    simp only [PyData.eqv]
    by_cases h : x = y
    · subst h
      simp
    · simp [h]
theorem eqv_i (a b : List Int) : PyData.eqv (tupI a) (tupI b) = decide (a = b) := by
  unfold tupI
  simp only [PyData.eqv]
  exact eqv_all_i a b
theorem any_i (rs : List (List Int)) (r : List Int) : ((rs.map tupI).any fun z => PyData.eqv z (tupI r)) = decide (r ∈ rs) := by
  rw [List.any_map]
  have e : ((fun z => PyData.eqv z (tupI r)) ∘ tupI) = fun a => decide (a = r) := by
    funext a
    exact eqv_i a r
  rw [e]
  induction rs with
  | nil => simp
  | cons a rs ih =>
    rw [List.any_cons, ih]
    by_cases h : a = r
    · simp [h]
    · have h' : ¬ r = a := fun z => h z.symm
      simp [h, h']
theorem lay_i : ∀ a : List Int, PyData.canLayAll0 (a.map PyData.int) = true
  | [] => by simp [PyData.canLayAll0]
  | x :: a => by
    rw [List.map_cons, PyData.canLayAll0, lay_i a]
    simp [PyData.canLay0]
theorem lay_t : ∀ rs : List (List Int), PyData.canLayAll0 (rs.map tupI) = true
  | [] => by simp [PyData.canLayAll0]
  | x :: a => by
    rw [List.map_cons, PyData.canLayAll0, lay_t a]
    unfold tupI
    simp only [PyData.canLay0]
    rw [lay_i]
    rfl
theorem dep_t : ∀ rs : List (List Int), PyData.depthAll (rs.map tupI) ≤ 1
  | [] => by simp [PyData.depthAll]
  | x :: a => by
    have := dep_t a
    rw [List.map_cons, PyData.depthAll, row_depth]
    omega
theorem shaped_i (r : List Int) : SeqAt.shaped (tupI r) = true := by
  unfold SeqAt.shaped
  rw [row_depth]
  unfold tupI
  simp only [PyData.canLay0]
  rw [lay_i]
  rfl
theorem shaped_l (rs : List (List Int)) : SeqAt.shaped (.list (rs.map tupI)) = true := by
  have e : (PyData.list (rs.map tupI)).depth ≤ 64 := by
    simp only [PyData.depth]
    have := dep_t rs
    omega
  unfold SeqAt.shaped
  rw [decide_eq_true e, Bool.and_true]
  simp only [PyData.canLay0]
  exact lay_t rs
theorem row_snoc {ls : List Int} {m : Int} {ns : List Int} {z : Int} (h : ns.length = ls.length) : isRow (ls ++ [m]) (tupI (ns ++ [z])) = (isRow ls (tupI ns) && isNum (.int z) 0 (m - 1)) := by
  show (decide (((ns ++ [z]).map PyData.int).length = (ls ++ [m]).length) && _) = ((decide ((ns.map PyData.int).length = ls.length) && _) && _)
  rw [decide_eq_true (by simp [h]), decide_eq_true (by simp [h]), Bool.true_and, Bool.true_and, List.map_append, List.zip_append (by simp [h]), List.all_append]
  simp
theorem row_nil : isRow [] (tupI []) = true := by decide
theorem row_len {ls ns : List Int} (h : isRow ls (tupI ns) = true) : ns.length = ls.length := by
  have e := (row_ints h).2
  have : intsD (tupI ns) = ns := by
    show (ns.map PyData.int).map numD = ns
    rw [List.map_map]
    exact List.map_id'' (fun x => rfl) ns
  rw [← this]
  exact e
theorem intsD_t (ns : List Int) : intsD (tupI ns) = ns := by
  show (ns.map PyData.int).map numD = ns
  rw [List.map_map]
  exact List.map_id'' (fun x => rfl) ns
/-- the rows of an input -/
def Good (ls : List Int) (rows : List (List Int)) : Prop := rows.length ≤ 5 ∧ (∀ r ∈ rows, isRow ls (tupI r) = true) ∧ rows.Pairwise (· < ·)
theorem le_tr (a b c : List Int) (h1 : leR a b = true) (h2 : leR b c = true) : leR a c = true := by
  unfold leR at *
  simp only [Bool.not_eq_true', decide_eq_false_iff_not] at *
  exact List.le_trans (show a ≤ b from h1) (show b ≤ c from h2)
theorem le_to (a b : List Int) : (leR a b || leR b a) = true := by
  unfold leR
  simp only [Bool.or_eq_true, Bool.not_eq_true', decide_eq_false_iff_not]
  exact List.le_total a b
theorem good_sort {ls : List Int} {rows : List (List Int)} (n5 : rows.length ≤ 5) (nd : rows.Nodup) (ok : ∀ r ∈ rows, isRow ls (tupI r) = true) : Good ls (rows.mergeSort leR) := by
  have pm : (rows.mergeSort leR).Perm rows := List.mergeSort_perm rows leR
  refine ⟨by rw [pm.length_eq]; exact n5, fun r hr => ok r (pm.mem_iff.mp hr), ?_⟩
  have p1 : (rows.mergeSort leR).Pairwise (fun a b => leR a b = true) := List.pairwise_mergeSort le_tr le_to rows
  have p2 : (rows.mergeSort leR).Nodup := pm.nodup_iff.mpr nd
  refine (List.Pairwise.and p1 p2).imp fun {a b} h => ?_
  obtain ⟨h1, h2⟩ := h
  unfold leR at h1
  simp only [Bool.not_eq_true', decide_eq_false_iff_not] at h1
  by_cases q : a < b
  · exact q
  · exact absurd (List.le_antisymm (show a ≤ b from h1) (show b ≤ a from q)) h2
theorem good_rows {ls : List Int} {rows : List (List Int)} (g : Good ls rows) : areRows ls (.tuple (rows.map tupI)) = true := by
  obtain ⟨_, ok, pw⟩ := g
  rw [rows_all, List.all_eq_true]
  intro i hi
  have il : i < rows.length := by simpa using List.mem_range.mp hi
  have gi : (rows.map tupI).getD i .none = tupI rows[i] := getD_of (by simp [il])
  unfold rowAt
  rw [gi, ok _ (List.getElem_mem il), Bool.true_and]
  by_cases h0 : i = 0
  · rw [decide_eq_true h0]
    rfl
  · have il2 : i - 1 < rows.length := by omega
    have g1 : (rows.map tupI).getD (i - 1) .none = tupI rows[i - 1] := getD_of (by simp [il2])
    rw [g1, intsD_t, intsD_t, decide_eq_true (List.pairwise_iff_getElem.mp pw (i - 1) i il2 il (by omega)), Bool.or_true]
end
/-! ### the draws that the law makes of the script -/
section
variable {P : Program} {w : World} {K : PySem.W.Frag} {mg : Str → Option Value} {base : Heap}
/-- a new list of as many small numbers as are asked -/
def spDraws (K : PySem.W.Frag) : Sp := fun vs H Q _ => ∃ (a : Addr) (ns : List Int) (m : Nat), vs = [.ref a, .int m] ∧ SqL K H a (ns.map V.int) ∧ ns.length ≤ 63 ∧ m ≤ 2000 ∧
  ∀ (p : Addr) (H' : Hp) (ds : List Int), H p = none → Same H H' → H' p = some (.lst (ds.map V.int)) → ds.length = m → (∀ d ∈ ds, 0 ≤ d ∧ d < 2 ^ 31) → Q (.ref p) H'
theorem ok_draws {f : Addr} {fd : FuncData} (B : Blt mg) (F : Fun K "_law_draws" "_law_draws" s_law_draws f fd) : FnOk P w K mg base CX0 1 f fd ["script", "many"] (spDraws K) := by
  have sc : FnScope ["script", "many", "rests", "draws", "k", "cell", "mixed", "at"] ["script", "many"] (defScope s_law_draws) := ⟨rfl, rfl, rfl, by decide +kernel, rfl, by decide +kernel, by decide +kernel⟩
  refine F.ok sc (fun vs H Q E h => ?_) (fun cdv A outer s H vs Q E hr h => ?_)
  · obtain ⟨a, ns, m, rfl, _⟩ := h
    rfl
  obtain ⟨a, ns, m, rfl, hS, h63, hm, k⟩ := h
  refine ⟨_, (pss_cons (ps_setLc (i := 2) (own := [("cell", 5)]) (g := gName 5) (tt := tYes) rfl sc.nd rfl rfl (sw_true rfl rfl rfl (by decide +kernel)) (pi_list (pv 0)) (blkOk_by (N := ["script", "many", "rests", "draws", "k", "cell", "mixed", "at"]) (sc := defScope s_law_draws) (by decide +kernel)) (fun _ _ _ _ _ => pg_name (i := 5) sc.nd rfl (Or.inl rfl)) (fun _ _ _ _ _ => pts_nil) (fun _ _ _ _ _ => (pe_callB call_abs (by rfl) B.abs (by decide +kernel) (pa_cons (pe_callTy call_int1 (by rfl) B.int (by decide +kernel) (pa_cons (pv 5) pa_nil)) pa_nil))))
    (pss_cons (ps_set (i := 3) sc.nd rfl (Or.inl rfl) (pe_lst pa_nil))
    (pss_cons (ps_for PassesOwn.never rfl (pi_range1 (by rfl) B.range (pa_cons (pv 1) pa_nil)) (pg_name (i := 4) sc.nd rfl (Or.inl rfl))
      (pss_cons (ps_set (i := 5) sc.nd rfl (Or.inl rfl) (pv 4))
      (pss_cons (ps_if (pt_cmpR op_gt (pe_callB call_len_seq (by rfl) B.len (by decide +kernel) (pa_cons (pv 0) pa_nil)) pe_int (nomark _))
        (pss_cons (ps_set (i := 7) sc.nd rfl (Or.inl rfl) (pe_op op_mod (pv 4) (pe_callB call_len_seq (by rfl) B.len (by decide +kernel) (pa_cons (pv 0) pa_nil))))
        (pss_cons (ps_set (i := 5) sc.nd rfl (Or.inl rfl) (pe_callTy call_int1 (by rfl) B.int (by decide +kernel) (pa_cons (pe_ix ix_list (pv 0) (pv 7) (fun _ _ => rfl)) pa_nil)))
        (pss_one (ps_if (PW.pt (pw_and (pt_cmpR op_ge (pv 5) (pe_op op_pow pe_int pe_int) (nomark _)) (pw_and1 (pt_cmpR op_gt (pe_ix ix_list (pv 2) (pv 7) (fun _ _ => rfl)) pe_int (nomark _)))))
          (pss_cons (ps_expr (pe_bm PySem.F.plainAttrs_list PySem.F.slot_list_append PySem.F.type_list_append mt_append (pv 3) (pa_cons (pe_op op_mod (pe_callTy call_int1 (by rfl) B.int (by decide +kernel) (pa_cons (pe_ix ix_list (pv 2) (pv 7) (fun _ _ => rfl)) pa_nil)) pe_int) pa_nil)))
          (pss_cons (ps_asg (pe_op op_fdiv (pe_callTy call_int1 (by rfl) B.int (by decide +kernel) (pa_cons (pe_ix ix_list (pv 2) (pv 7) (fun _ _ => rfl)) pa_nil)) pe_int) (pg_sub (pv 2) (pv 7) set_list))
          (pss_one ps_continue)))
          pss_nil))))
        pss_nil)
      (pss_cons (ps_set (i := 6) sc.nd rfl (Or.inl rfl) (pe_op op_mod (pe_callTy call_int1 (by rfl) B.int (by decide +kernel) (pa_cons (pe_op op_add (pe_op op_add (pe_op op_mul (pv 5) pe_int) (pe_op op_mul (pv 4) pe_int)) pe_int) pa_nil)) pe_int))
      (pss_cons (ps_set (i := 6) sc.nd rfl (Or.inl rfl) (pe_op op_mod (pe_callTy call_int1 (by rfl) B.int (by decide +kernel) (pa_cons (pe_op op_add (pe_op op_fdiv (pe_op op_mul (pv 6) (pv 6)) pe_int) (pv 6)) pa_nil)) pe_int))
      (pss_one (ps_expr (pe_bm PySem.F.plainAttrs_list PySem.F.slot_list_append PySem.F.type_list_append mt_append (pv 3) (pa_cons (pe_op op_mod (pe_callTy call_int1 (by rfl) B.int (by decide +kernel) (pa_cons (pe_op op_add (pe_op op_fdiv (pe_op op_mul (pv 6) (pv 6)) pe_int) (pe_op op_mul (pv 4) pe_int)) pa_nil)) pe_int) pa_nil)))))))))
    (pss_one (ps_ret (pv 3)))))), ?_⟩
  -- rests
  refine ⟨_, rfl, a, rfl, ⟨_, hS⟩, fun r hr0 => ?_⟩
  refine lc_list (K := K) (a := a) (xs := ns.map V.int) (fun i H' => ∃ acc : List Int, acc.length = i ∧ H' r = some (.lst (acc.map V.int)) ∧ Same H H')
    ⟨[], rfl, upd_same, same_new hr0 _⟩ (fun i H' _ ⟨_, _, _, s⟩ => s.seq hS) ?_ ?_
  · rintro i y H' hi ⟨acc, hl, hD, s⟩
    obtain ⟨z, hz, rfl⟩ := item_of hi
    have hi63 : i < ns.length := (List.getElem?_eq_some_iff.mp hz).1
    refine ⟨rfl, ?_⟩

    refine ⟨_, rfl, .inl ⟨_, rfl, _, rfl, _, hD, small1000 (by rw [List.length_map]; omega), acc ++ [if z < 0 then -z else z], by simp [hl], ?_, same_own s hr0 _⟩⟩
    rw [upd_same, List.map_append]
    rfl
  rintro H1 ⟨rs, hrs, hr1, s1⟩
  rw [List.length_map] at hrs
  -- draws
  refine ⟨Nat.zero_le _, fun p hp1 => ?_⟩
  have hp0 : H p = none := s1.free hp1
  have npr : r ≠ p := ne_of_none hr1 hp1
  -- the loop
  refine ⟨_, rfl, (m : Int), rfl, by omega, by omega, for_range (lo := 0) (n := (m : Int).toNat) (fun i σ H' => ∃ (ds rs : List Int) (kv cv mv av : Option V), σ = [some (.ref a), some (.int m), some (.ref r), some (.ref p), kv, cv, mv, av] ∧
      H' r = some (.lst (rs.map V.int)) ∧ H' p = some (.lst (ds.map V.int)) ∧ rs.length = ns.length ∧ ds.length = i ∧ (∀ d ∈ ds, 0 ≤ d ∧ d < 2 ^ 31) ∧ Same H H')
    ⟨[], rs, none, none, none, none, rfl, by rw [upd_ne npr]; exact hr1, upd_same, hrs, rfl, by simp, same_own s1 hp0 _⟩ ?_ ?_⟩
  · rintro i σ H' hi ⟨ds, rs, kv, cv, mv, av, rfl, hr', hp', hrl, hdl, hb, s⟩
    have hi2 : ds.length < 2000 := by omega
    have grown : ∀ (d : Int), 0 ≤ d → d < 2 ^ 31 → ∀ z ∈ ds ++ [d], 0 ≤ z ∧ z < 2 ^ 31 := fun d h0 h1 z hz => by
      rcases List.mem_append.mp hz with q | q
      · exact hb z q
      · rw [List.mem_singleton.mp q]
        exact ⟨h0, h1⟩
    have put : ∀ (d : Int), (upd H' p (.lst (ds.map V.int ++ [V.int d]))) p = some (.lst ((ds ++ [d]).map V.int)) := fun d => by
      rw [upd_same, List.map_append]
      rfl
    have room : (ds.map V.int).length < sizeLine := by rw [List.length_map]; exact Nat.lt_trans hi2 (by decide)
    have m48 : -(2 ^ 64) < (48271 : Int) ∧ (48271 : Int) < 2 ^ 64 := by decide
    have m69 : -(2 ^ 64) < (69621 : Int) ∧ (69621 : Int) < 2 ^ 64 := by decide
    have m79 : -(2 ^ 64) < (7919 : Int) ∧ (7919 : Int) < 2 ^ 64 := by decide
    have b1 : ∀ x : Int, -(2 ^ 64) < x % 2147483647 ∧ x % 2147483647 < 2 ^ 64 := fun x => by omega
    have b2 : ∀ x : Int, -(2 ^ 64) < x % 2147483629 ∧ x % 2147483629 < 2 ^ 64 := fun x => by omega
    refine ⟨_, rfl, ?_⟩
    refine ⟨_, rfl, a, _, rfl, .inl (s.seq hS), _, _, rfl, rfl, _, rfl, ?_⟩
    refine ite2 (fun c => ?_) (fun c => ?_)
    · have c' := dec_t c
      rw [List.length_map] at c'
      have m0 : 0 ≤ (0 + (i : Int)) % (ns.length : Int) := Int.emod_nonneg _ (by omega)
      have m1 : (0 + (i : Int)) % (ns.length : Int) < (ns.length : Int) := Int.emod_lt_of_pos _ c'
      obtain ⟨z, _, _, hz⟩ := at_int m0 m1
      obtain ⟨y, hy0, _, hy⟩ := at_int (ns := rs) m0 (by rw [hrl]; exact m1)
      refine ⟨_, rfl, _, rfl, a, _, rfl, .inl (s.seq hS), _, _, rfl, rfl, (by rw [List.length_map]; exact c'), ?_⟩
      rw [List.length_map]
      refine ⟨_, rfl, _, rfl, a, _, _, _, rfl, rfl, s.seq hS, hz, .inl ⟨_, rfl, ?_⟩⟩
      refine ⟨_, rfl, _, _, rfl, rfl, ⟨by decide, by decide, by decide⟩, _, _, rfl, rfl, _, rfl, ?_⟩
      refine ite2 (fun _ => ?_) (fun _ => ?_)
      · refine ⟨_, rfl, _, rfl, r, _, _, _, rfl, rfl, SqL.of hr', hy, _, _, rfl, rfl, _, rfl, ?_⟩
        refine ite2 (fun _ => ?_) (fun _ => ?_)
        · refine ⟨_, rfl, .inl ⟨rfl, _, SqL.of hp'⟩, _, rfl, _, rfl, r, _, _, _, rfl, rfl, SqL.of hr', hy, .inl ⟨_, rfl, _, _, rfl, rfl, (by show (0 : Int) < 1000003; decide), p, _, _, rfl, rfl, hp', room, ?_⟩⟩
          have hr2 : (upd H' p (.lst (ds.map V.int ++ [V.int (y % 1000003)]))) r = some (.lst (rs.map V.int)) := by rw [upd_ne npr]; exact hr'
          refine ⟨_, rfl, _, rfl, r, _, _, _, rfl, rfl, SqL.of hr2, hy, .inl ⟨_, rfl, _, _, rfl, rfl, ⟨by decide, by decide⟩, _, rfl, _, rfl, r, _, _, ((0 + (i : Int)) % (ns.length : Int)).toNat, rfl, rfl, hr2, ix_of m0 (by rw [List.length_map, hrl]; exact m1), ?_⟩⟩
          refine ⟨ds ++ [y % 1000003], rs.set ((0 + (i : Int)) % (ns.length : Int)).toNat (y / 1000003), _, _, _, _, rfl, ?_, ?_, by rw [List.length_set]; exact hrl, by rw [List.length_append, List.length_singleton]; omega, grown _ (Int.emod_nonneg _ (by decide)) (Int.lt_trans (Int.emod_lt_of_pos _ (by decide)) (by decide)), same_own (same_own s hp0 _) hr0 _⟩
          · rw [upd_same, List.map_set]
          · rw [upd_ne npr.symm]
            exact put _
        · refine ⟨_, rfl, _, _, rfl, rfl, .inr m48, _, rfl, _, _, rfl, rfl, .inr m69, _, _, rfl, rfl, _, _, rfl, rfl, .inl ⟨_, rfl, _, _, rfl, rfl, (by show (0 : Int) < 2147483647; decide), ?_⟩⟩
          refine ⟨_, rfl, _, rfl, _, _, rfl, rfl, .inl (b1 _), _, _, rfl, rfl, ⟨by decide, by decide⟩, _, rfl, _, _, rfl, rfl, .inl ⟨_, rfl, _, _, rfl, rfl, (by show (0 : Int) < 2147483629; decide), ?_⟩⟩
          refine ⟨_, rfl, .inl ⟨rfl, _, SqL.of hp'⟩, _, rfl, _, rfl, _, _, rfl, rfl, .inl (b2 _), _, _, rfl, rfl, ⟨by decide, by decide⟩, _, rfl, _, _, rfl, rfl, .inr m79, _, _, rfl, rfl, .inl ⟨_, rfl, _, _, rfl, rfl, (by show (0 : Int) < 2147483629; decide), p, _, _, rfl, rfl, hp', room, ?_⟩⟩
          exact ⟨ds ++ [_], rs, _, _, _, _, rfl, by rw [upd_ne npr]; exact hr', put _, hrl, by rw [List.length_append, List.length_singleton]; omega, grown _ (Int.emod_nonneg _ (by decide)) (Int.lt_trans (Int.emod_lt_of_pos _ (by decide)) (by decide)), same_own s hp0 _⟩
      · refine ⟨_, rfl, _, _, rfl, rfl, .inr m48, _, rfl, _, _, rfl, rfl, .inr m69, _, _, rfl, rfl, _, _, rfl, rfl, .inl ⟨_, rfl, _, _, rfl, rfl, (by show (0 : Int) < 2147483647; decide), ?_⟩⟩
        refine ⟨_, rfl, _, rfl, _, _, rfl, rfl, .inl (b1 _), _, _, rfl, rfl, ⟨by decide, by decide⟩, _, rfl, _, _, rfl, rfl, .inl ⟨_, rfl, _, _, rfl, rfl, (by show (0 : Int) < 2147483629; decide), ?_⟩⟩
        refine ⟨_, rfl, .inl ⟨rfl, _, SqL.of hp'⟩, _, rfl, _, rfl, _, _, rfl, rfl, .inl (b2 _), _, _, rfl, rfl, ⟨by decide, by decide⟩, _, rfl, _, _, rfl, rfl, .inr m79, _, _, rfl, rfl, .inl ⟨_, rfl, _, _, rfl, rfl, (by show (0 : Int) < 2147483629; decide), p, _, _, rfl, rfl, hp', room, ?_⟩⟩
        exact ⟨ds ++ [_], rs, _, _, _, _, rfl, by rw [upd_ne npr]; exact hr', put _, hrl, by rw [List.length_append, List.length_singleton]; omega, grown _ (Int.emod_nonneg _ (by decide)) (Int.lt_trans (Int.emod_lt_of_pos _ (by decide)) (by decide)), same_own s hp0 _⟩
    · refine ⟨_, rfl, _, _, rfl, rfl, .inr m48, _, rfl, _, _, rfl, rfl, .inr m69, _, _, rfl, rfl, _, _, rfl, rfl, .inl ⟨_, rfl, _, _, rfl, rfl, (by show (0 : Int) < 2147483647; decide), ?_⟩⟩
      refine ⟨_, rfl, _, rfl, _, _, rfl, rfl, .inl (b1 _), _, _, rfl, rfl, ⟨by decide, by decide⟩, _, rfl, _, _, rfl, rfl, .inl ⟨_, rfl, _, _, rfl, rfl, (by show (0 : Int) < 2147483629; decide), ?_⟩⟩
      refine ⟨_, rfl, .inl ⟨rfl, _, SqL.of hp'⟩, _, rfl, _, rfl, _, _, rfl, rfl, .inl (b2 _), _, _, rfl, rfl, ⟨by decide, by decide⟩, _, rfl, _, _, rfl, rfl, .inr m79, _, _, rfl, rfl, .inl ⟨_, rfl, _, _, rfl, rfl, (by show (0 : Int) < 2147483629; decide), p, _, _, rfl, rfl, hp', room, ?_⟩⟩
      exact ⟨ds ++ [_], rs, _, _, _, _, rfl, by rw [upd_ne npr]; exact hr', put _, hrl, by rw [List.length_append, List.length_singleton]; omega, grown _ (Int.emod_nonneg _ (by decide)) (Int.lt_trans (Int.emod_lt_of_pos _ (by decide)) (by decide)), same_own s hp0 _⟩
  · rintro σ H' ⟨ds, rs, kv, cv, mv, av, rfl, hr', hp', hrl, hdl, hb, s⟩
    exact ⟨_, rfl, k p H' ds hp0 s hp' (by omega) hb⟩
/-- the next draw, below many; the place goes on by one -/
def spTake (K : PySem.W.Frag) : Sp := fun vs H Q _ => ∃ (h d : Addr) (ds : List Int) (i : Nat) (m : Int), vs = [.ref h, .int m] ∧ H h = some (.lst [.ref d, .int i]) ∧ H d = some (.lst (ds.map V.int)) ∧ 0 < m ∧ m < 1000000 ∧
  ∀ r : Int, 0 ≤ r → r < m → Q (.int r) (upd H h (.lst [.ref d, .int ((i + 1 : Nat) : Int)]))
theorem ok_take {f : Addr} {fd : FuncData} (B : Blt mg) (F : Fun K "_law_take" "_law_take" s_law_take f fd) : FnOk P w K mg base CX0 1 f fd ["hand", "many"] (spTake K) := by
  have sc : FnScope ["hand", "many", "at", "draws"] ["hand", "many"] (defScope s_law_take) := ⟨rfl, rfl, rfl, by decide +kernel, rfl, by decide +kernel, by decide +kernel⟩
  refine F.ok sc (fun vs H Q E h => ?_) (fun cdv A outer s H vs Q E hr h => ?_)
  · obtain ⟨h, d, ds, i, m, rfl, _⟩ := h
    rfl
  obtain ⟨h, d, ds, i, m, rfl, hh, hd, m0, m1, k⟩ := h
  refine ⟨_, (pss_cons (ps_set (i := 2) sc.nd rfl (Or.inl rfl) (pe_ix ix_list (pv 0) pe_int (fun _ _ => rfl)))
    (pss_cons (ps_asg (pe_op op_add (pv 2) pe_int) (pg_sub (pv 0) pe_int set_list))
    (pss_cons (ps_set (i := 3) sc.nd rfl (Or.inl rfl) (pe_ix ix_list (pv 0) pe_int (fun _ _ => rfl)))
    (pss_cons (ps_if (pt_cmpR op_ge (pv 2) (pe_callB call_len_seq (by rfl) B.len (by decide +kernel) (pa_cons (pv 3) pa_nil)) (nomark _))
      (pss_one (ps_ret pe_int))
      pss_nil)
    (pss_one (ps_ret (pe_op op_mod (pe_op op_fdiv (pe_callTy call_int1 (by rfl) B.int (by decide +kernel) (pa_cons (pe_ix ix_list (pv 3) (pv 2) (fun _ _ => rfl)) pa_nil)) pe_int) (pv 1)))))))), ?_⟩
  have ndh : d ≠ h := by
    rintro rfl
    rw [hh] at hd
    cases ds with
    | nil => cases hd
    | cons z ds => cases hd
  refine ⟨_, rfl, h, _, _, _, rfl, rfl, SqL.of hh, at_of (j := 1) rfl rfl, ?_⟩
  refine ⟨_, rfl, _, _, rfl, rfl, _, rfl, h, _, _, 1, rfl, rfl, hh, by rfl, ?_⟩
  refine ⟨_, rfl, h, _, _, _, rfl, rfl, SqL.of upd_same, at_of (j := 0) rfl rfl, ?_⟩
  have hd2 : (upd H h (.lst ([V.ref d, V.int (i : Int)].set 1 (.int ((i : Int) + 1))))) d = some (.lst (ds.map V.int)) := by rw [upd_ne ndh]; exact hd
  refine ⟨_, rfl, _, rfl, d, _, rfl, .inl (SqL.of hd2), _, _, rfl, rfl, _, rfl, ?_⟩
  have q : ∀ r : Int, 0 ≤ r → r < m → Q (.int r) (upd H h (.lst ([V.ref d, V.int (i : Int)].set 1 (.int ((i : Int) + 1))))) := k
  refine ite2 (fun _ => q 0 (by decide) m0) (fun c => ?_)
  have c' := dec_f c
  rw [List.length_map] at c'
  obtain ⟨z, _, _, hz⟩ := at_int (ns := ds) (i := (i : Int)) (by omega) (by omega)
  exact ⟨_, rfl, _, rfl, d, _, _, _, rfl, rfl, SqL.of hd2, hz, .inl ⟨_, rfl, _, _, rfl, rfl, ⟨by decide, by decide⟩, _, rfl, _, _, rfl, rfl, m0, q _ (Int.emod_nonneg _ (by omega)) (Int.emod_lt_of_pos _ m0)⟩⟩
end
section
variable {P : Program} {w : World} {K : PySem.W.Frag} {mg : Str → Option Value} {base : Heap}
theorem lt_small {n : Nat} (h : n ≤ 100000) : n < sizeLine := Nat.lt_of_le_of_lt h (by decide)
theorem le_sz {n : Nat} (h : n ≤ 100000) : n ≤ sizeLine := Nat.le_of_lt (lt_small h)
theorem hand_out {H0 : Hp} {h d p : Addr} {ds : List Int} {n : Nat} (x : Hand H0 h d ds n) (hp : H0 p = none) : p ≠ h ∧ p ≠ d := ⟨(ne_of_none x.1 hp).symm, (ne_of_none x.2 hp).symm⟩
/-! ### choices -/
def ext1 (rows : List (List Int)) (items : List Int) : List (List Int) := rows.flatMap fun r => items.map fun i => r ++ [i]
def cart (ls : List (List Int)) : List (List Int) := ls.foldl ext1 [[]]
theorem cart_snoc (ls : List (List Int)) (x : List Int) : cart (ls ++ [x]) = ext1 (cart ls) x := by
  unfold cart
  rw [List.foldl_append]
  rfl
theorem cart_take {ls : List (List Int)} {i : Nat} {x : List Int} (h : ls[i]? = some x) : cart (ls.take (i + 1)) = ext1 (cart (ls.take i)) x := by rw [take_more h, cart_snoc]
theorem ext1_take {rows : List (List Int)} {items : List Int} {i : Nat} {r : List Int} (h : rows[i]? = some r) : ext1 (rows.take (i + 1)) items = ext1 (rows.take i) items ++ items.map fun z => r ++ [z] := by
  rw [take_more h]
  unfold ext1
  rw [List.flatMap_append]
  simp
theorem mem_ext1 {rows : List (List Int)} {items : List Int} {r : List Int} : r ∈ ext1 rows items ↔ ∃ q ∈ rows, ∃ z ∈ items, r = q ++ [z] := by
  unfold ext1
  rw [List.mem_flatMap]
  constructor
  · rintro ⟨q, hq, h⟩
    obtain ⟨z, hz, e⟩ := List.mem_map.mp h
    exact ⟨q, hq, z, hz, e.symm⟩
  · rintro ⟨q, hq, z, hz, rfl⟩
    exact ⟨q, hq, List.mem_map.mpr ⟨z, hz, rfl⟩⟩
/-- one label out of each set -/
def Pick (r : List Int) (ls : List (List Int)) : Prop := r.length = ls.length ∧ ∀ (i : Nat) (z : Int) (x : List Int), r[i]? = some z → ls[i]? = some x → z ∈ x
theorem mem_cart : ∀ {ls : List (List Int)} {r : List Int}, r ∈ cart ls ↔ Pick r ls := by
  intro ls
  have go : ∀ n, n ≤ ls.length → ∀ r, r ∈ cart (ls.take n) ↔ Pick r (ls.take n) := by
    intro n
    induction n with
    | zero =>
      intro _ r
      rw [List.take_zero]
      show r ∈ [[]] ↔ _
      rw [List.mem_singleton]
      constructor
      · rintro rfl
        exact ⟨rfl, fun i z x h => by simp at h⟩
      · rintro ⟨h, _⟩
        exact List.length_eq_zero_iff.mp h
    | succ n ih =>
      intro hn r
      have e : ls[n]? = some ls[n] := List.getElem?_eq_getElem (by omega)
      have tl : (ls.take n).length = n := by rw [List.length_take]; omega
      rw [cart_take e, mem_ext1]
      constructor
      · rintro ⟨q, hq, z, hz, rfl⟩
        obtain ⟨ql, qi⟩ := (ih (by omega) q).mp hq
        have qn : q.length = n := by omega
        refine ⟨by rw [take_more e, List.length_append, List.length_append, ql]; rfl, fun i y x hy hx => ?_⟩
        rw [take_more e] at hx
        by_cases hi : i < n
        · rw [List.getElem?_append_left (by omega)] at hy
          rw [List.getElem?_append_left (by omega)] at hx
          exact qi i y x hy hx
        · rw [List.getElem?_append_right (by omega)] at hy
          rw [List.getElem?_append_right (by omega)] at hx
          have i0 : i - n = 0 := by
            have := (List.getElem?_eq_some_iff.mp hx).1
            simp only [List.length_singleton] at this
            omega
          rw [show i - q.length = 0 by omega] at hy
          rw [show i - (ls.take n).length = 0 by omega] at hx
          have ey : z = y := by simpa using hy
          have ex : ls[n] = x := by simpa using hx
          rw [← ey, ← ex]
          exact hz
      · rintro ⟨rl, ri⟩
        rw [take_more e, List.length_append, tl] at rl
        have rn : r.length = n + 1 := rl
        refine ⟨r.take n, (ih (by omega) _).mpr ⟨by rw [List.length_take, tl]; omega, fun i z x hz hx => ?_⟩, r[n], ?_, ?_⟩
        · have hi : i < n := by
            have := (List.getElem?_eq_some_iff.mp hx).1
            omega
          rw [List.getElem?_take_of_lt hi] at hz
          refine ri i z x hz ?_
          rw [take_more e, List.getElem?_append_left (by omega)]
          exact hx
        · refine ri n r[n] ls[n] (by simp) ?_
          rw [take_more e, List.getElem?_append_right (by omega), tl, Nat.sub_self]
          rfl
        · have := (take_more (l := r) (i := n) (x := r[n]) (by simp)).symm
          rw [this, List.take_of_length_le (by omega)]
  intro r
  have := go ls.length (Nat.le_refl _) r
  rwa [List.take_of_length_le (Nat.le_refl _)] at this
/-! ### rows that are tuples of their own -/
def RT (H : Hp) (v : V) (r : List Int) : Prop := ∃ t, v = .ref t ∧ H t = some (.tup (r.map V.int))
theorem RT.stay {H H' : Hp} {v : V} {r : List Int} (s : TupsStay H H') (h : RT H v r) : RT H' v r := by
  obtain ⟨t, rfl, e⟩ := h
  exact ⟨t, rfl, s _ _ (.inl ⟨_, rfl⟩) e⟩
theorem RT.dt {H : Hp} {v : V} {r : List Int} (h : RT H v r) : Dt K H v (tupI r) := by
  obtain ⟨t, rfl, e⟩ := h
  exact .tup (SqT.of e) (DtAll.ints r)
inductive RTs (H : Hp) : List V → List (List Int) → Prop
  | nil : RTs H [] []
  | cons {v : V} {vs : List V} {r : List Int} {rs : List (List Int)} : RT H v r → RTs H vs rs → RTs H (v :: vs) (r :: rs)
theorem RTs.stay {H H' : Hp} (s : TupsStay H H') : ∀ {vs : List V} {rs : List (List Int)}, RTs H vs rs → RTs H' vs rs
  | _, _, .nil => .nil
  | _, _, .cons h a => .cons (h.stay s) (a.stay s)
theorem RTs.len {H : Hp} : ∀ {vs : List V} {rs : List (List Int)}, RTs H vs rs → vs.length = rs.length
  | _, _, .nil => rfl
  | _, _, .cons _ a => by rw [List.length_cons, List.length_cons, a.len]
theorem RTs.app {H : Hp} : ∀ {vs ws : List V} {rs qs : List (List Int)}, RTs H vs rs → RTs H ws qs → RTs H (vs ++ ws) (rs ++ qs)
  | _, _, _, _, .nil, b => b
  | _, _, _, _, .cons h a, b => .cons h (a.app b)
theorem RTs.dt {H : Hp} : ∀ {vs : List V} {rs : List (List Int)}, RTs H vs rs → DtAll K H vs (rs.map tupI)
  | _, _, .nil => .nil
  | _, _, .cons h a => .cons h.dt a.dt
theorem RTs.of {H : Hp} : ∀ {vs : List V} {rs : List (List Int)} {i : Nat} {v : V}, RTs H vs rs → vs[i]? = some v → ∃ r, rs[i]? = some r ∧ RT H v r
  | _, _, _, _, .nil, e => by simp at e
  | _, _, 0, _, .cons h _, e => by simp at e; subst e; exact ⟨_, rfl, h⟩
  | _, _, i + 1, _, .cons _ a, e => by simpa using a.of (i := i) (by simpa using e)
theorem RTs.at {H : Hp} : ∀ {vs : List V} {rs : List (List Int)} {i : Nat} {r : List Int}, RTs H vs rs → rs[i]? = some r → ∃ v, vs[i]? = some v ∧ RT H v r
  | _, _, _, _, .nil, e => by simp at e
  | _, _, 0, _, .cons h _, e => by simp at e; subst e; exact ⟨_, rfl, h⟩
  | _, _, i + 1, _, .cons _ a, e => by simpa using a.at (i := i) (by simpa using e)
/-- sets of labels: addresses of lists, of tuples -/
inductive SLs (S : Addr → List V → Prop) : List V → List (List Int) → Prop
  | nil : SLs S [] []
  | cons {a : Addr} {vs : List V} {r : List Int} {rs : List (List Int)} : S a (r.map V.int) → SLs S vs rs → SLs S (.ref a :: vs) (r :: rs)
theorem SLs.imp {S S' : Addr → List V → Prop} (s : ∀ a xs, S a xs → S' a xs) : ∀ {vs : List V} {rs : List (List Int)}, SLs S vs rs → SLs S' vs rs
  | _, _, .nil => .nil
  | _, _, .cons h a => .cons (s _ _ h) (a.imp s)
theorem SLs.len {S : Addr → List V → Prop} : ∀ {vs : List V} {rs : List (List Int)}, SLs S vs rs → vs.length = rs.length
  | _, _, .nil => rfl
  | _, _, .cons _ a => by rw [List.length_cons, List.length_cons, a.len]
theorem SLs.app {S : Addr → List V → Prop} : ∀ {vs ws : List V} {rs qs : List (List Int)}, SLs S vs rs → SLs S ws qs → SLs S (vs ++ ws) (rs ++ qs)
  | _, _, _, _, .nil, b => b
  | _, _, _, _, .cons h a, b => .cons h (a.app b)
theorem SLs.of {S : Addr → List V → Prop} : ∀ {vs : List V} {rs : List (List Int)} {i : Nat} {v : V}, SLs S vs rs → vs[i]? = some v → ∃ a r, v = .ref a ∧ rs[i]? = some r ∧ S a (r.map V.int)
  | _, _, _, _, .nil, e => by simp at e
  | _, _, 0, _, .cons h _, e => by simp at e; subst e; exact ⟨_, _, rfl, rfl, h⟩
  | _, _, i + 1, _, .cons _ a, e => by simpa using a.of (i := i) (by simpa using e)
theorem SLs.at {S : Addr → List V → Prop} : ∀ {vs : List V} {rs : List (List Int)} {i : Nat} {r : List Int}, SLs S vs rs → rs[i]? = some r → ∃ a, vs[i]? = some (.ref a) ∧ S a (r.map V.int)
  | _, _, _, _, .nil, e => by simp at e
  | _, _, 0, _, .cons h _, e => by simp at e; subst e; exact ⟨_, rfl, h⟩
  | _, _, i + 1, _, .cons _ a, e => by simpa using a.at (i := i) (by simpa using e)
theorem SLs.take {S : Addr → List V → Prop} : ∀ {vs : List V} {rs : List (List Int)} (n : Nat), SLs S vs rs → SLs S (vs.take n) (rs.take n)
  | _, _, 0, _ => .nil
  | _, _, _ + 1, .nil => .nil
  | _, _, n + 1, .cons h a => .cons h (a.take n)
theorem SLs.drop {S : Addr → List V → Prop} : ∀ {vs : List V} {rs : List (List Int)} (n : Nat), SLs S vs rs → SLs S (vs.drop n) (rs.drop n)
  | _, _, 0, a => a
  | _, _, _ + 1, .nil => .nil
  | _, _, n + 1, .cons _ a => a.drop n
theorem SLs.set {S : Addr → List V → Prop} {b : Addr} {q : List Int} (h : S b (q.map V.int)) : ∀ {vs : List V} {rs : List (List Int)} (n : Nat), SLs S vs rs → SLs S (vs.set n (.ref b)) (rs.set n q)
  | _, _, _, .nil => .nil
  | _, _, 0, .cons _ a => .cons h a
  | _, _, n + 1, .cons h' a => .cons h' (a.set h n)
/-! ### a + b of such rows -/
def rPlusT : R2 := fun x y H Q => ∃ a b xs ys, x = .ref a ∧ y = .ref b ∧ H a = some (.tup xs) ∧ H b = some (.tup ys) ∧ xs.length + ys.length ≤ sizeLine ∧ ∀ p H', Same H H' → H' p = some (.tup (xs ++ ys)) → Q (.ref p) H'
theorem op_plusT {X : Cx} : OpR X (binaryOp .Add) rPlusT := by
  intro pins s σ H x y v u Q inv rx ry want
  obtain ⟨a, b, xs, ys, rfl, rfl, ha, hb, hz, q⟩ := want
  refine op_catA pins s σ H _ _ v u Q inv rx ry ⟨a, b, xs, ys, rfl, rfl, SqT.of ha, SqT.of hb, hz, fun e => q b H (Same.refl H) ?_, fun _ e => q a H (Same.refl H) ?_, fun _ _ p hp => q p _ (same_new hp _) upd_same⟩
  · rw [e]
    exact hb
  · rw [e, List.append_nil]
    exact ha
/-- a list of rows that grows -/
structure AccT (H0 : Hp) (q : Addr) (rs : List (List Int)) (H : Hp) : Prop where
  free : H0 q = none
  same : Same H0 H
  ex : ∃ acc, H q = some (.lst acc) ∧ RTs H acc rs
theorem AccT.start {H0 : Hp} {q : Addr} (h : H0 q = none) : AccT H0 q [] (upd H0 q (.lst [])) := ⟨h, same_new h _, [], upd_same, .nil⟩
theorem AccT.step {H0 H H' : Hp} {q : Addr} {rs : List (List Int)} (a : AccT H0 q rs H) (s : Same H H') : AccT H0 q rs H' := by
  obtain ⟨acc, e, d⟩ := a.ex
  exact ⟨a.free, a.same.trans s, acc, s _ _ e, d.stay s.tups⟩
theorem AccT.push {H0 H : Hp} {q : Addr} {rs : List (List Int)} {v : V} {r : List Int} (a : AccT H0 q rs H) (hv : RT H v r) : ∃ acc, H q = some (.lst acc) ∧ acc.length = rs.length ∧ AccT H0 q (rs ++ [r]) (upd H q (.lst (acc ++ [v]))) := by
  obtain ⟨acc, e, d0⟩ := a.ex
  have t := tups_lst (ys := acc ++ [v]) e
  exact ⟨acc, e, d0.len, a.free, same_own a.same a.free _, _, upd_same, (d0.stay t).app (.cons (hv.stay t) .nil)⟩
def spChoices (K : PySem.W.Frag) : Sp := fun vs H Q _ => ∃ (l : Addr) (ls : List V) (nss : List (List Int)), vs = [.ref l] ∧ SqL K H l ls ∧ SLs (SqL K H) ls nss ∧ (∀ m, (cart (nss.take m)).length ≤ 2000) ∧ nss.length ≤ 100 ∧
  ∀ (p : Addr) (H' : Hp) (xs : List V), H p = none → Same H H' → H' p = some (.lst xs) → RTs H' xs (cart nss) → Q (.ref p) H'
theorem same_seq {H H' : Hp} (s : Same H H') {a : Addr} {xs : List V} (h : SqL K H a xs) : SqL K H' a xs := s.seq h
set_option maxHeartbeats 2000000 in
theorem ok_choicesL {f : Addr} {fd : FuncData} (F : Fun K "_law_choices" "_law_choices" s_law_choices f fd) : FnOk P w K mg base CX0 1 f fd ["lists"] (spChoices K) := by
  have sc : FnScope ["lists", "found", "items", "longer", "row", "item"] ["lists"] (defScope s_law_choices) := ⟨rfl, rfl, rfl, by decide +kernel, rfl, by decide +kernel, by decide +kernel⟩
  refine F.ok sc (fun vs H Q E h => ?_) (fun cdv A outer s H vs Q E hr h => ?_)
  · obtain ⟨_, _, _, rfl, _⟩ := h
    rfl
  obtain ⟨l, ls, nss, rfl, hl, hLL, hM, h4, k⟩ := h
  refine ⟨_, (pss_cons (ps_set (i := 1) sc.nd rfl (Or.inl rfl) (pe_lst (pa_cons (pe_tup pa_nil) pa_nil)))
    (pss_cons (ps_for PassesOwn.never rfl (pi_list (pv 0)) (pg_name (i := 2) sc.nd rfl (Or.inl rfl))
      (pss_cons (ps_set (i := 3) sc.nd rfl (Or.inl rfl) (pe_lst pa_nil))
      (pss_cons (ps_for PassesOwn.never rfl (pi_list (pv 1)) (pg_name (i := 4) sc.nd rfl (Or.inl rfl))
        (pss_one (ps_for PassesOwn.never rfl (pi_list (pv 2)) (pg_name (i := 5) sc.nd rfl (Or.inl rfl))
          (pss_one (ps_expr (pe_bm PySem.F.plainAttrs_list PySem.F.slot_list_append PySem.F.type_list_append mt_append (pv 3) (pa_cons (pe_op op_plusT (pv 4) (pe_tup (pa_cons (pv 5) pa_nil))) pa_nil)))))))
      (pss_one (ps_set (i := 1) sc.nd rfl (Or.inl rfl) (pv 3))))))
    (pss_one (ps_ret (pv 1))))), ?_⟩
  refine ⟨(by show 0 ≤ sizeLine; decide), fun t0 ht0 => ⟨(by show 1 ≤ sizeLine; decide), fun r0 hr0 => ?_⟩⟩
  have s0 := same_new ht0 (.tup [])
  have s1 := same_new hr0 (.lst [.ref t0])
  have s01 := s0.trans s1
  refine ⟨_, rfl, l, rfl, ⟨_, s01.seq hl⟩, for_list (K := K) (a := l) (xs := ls) (fun m σ H' => ∃ (r : Addr) (xs : List V) (av bv cv dv : Option V), σ = [some (.ref l), some (.ref r), av, bv, cv, dv] ∧
      H r = none ∧ Same H H' ∧ H' r = some (.lst xs) ∧ RTs H' xs (cart (nss.take m)))
    ⟨r0, _, none, none, none, none, rfl, s0.free hr0, s01, upd_same, .cons ⟨t0, rfl, s1 _ _ upd_same⟩ .nil⟩ (fun m σ H' _ ⟨_, _, _, _, _, _, _, _, s, _⟩ => s.seq hl) ?_ ?_⟩
  · rintro m x σ H' hm ⟨r, xs, av, bv, cv, dv, rfl, fr, sm, hr, hx⟩
    obtain ⟨pa, ns, rfl, hns, hpa⟩ := hLL.of hm
    have many := hM (m + 1)
    rw [cart_take hns] at many
    have hx' := hx.len
    refine ⟨Nat.zero_le _, fun q hq => ?_⟩
    have a0 := AccT.start hq
    refine ⟨_, rfl, r, rfl, ⟨_, SqL.of (a0.same r _ hr)⟩, for_list (K := K) (a := r) (xs := xs) (fun i σ H3 => ∃ (cv dv : Option V), σ = [some (.ref l), some (.ref r), some (.ref pa), some (.ref q), cv, dv] ∧ AccT H' q (ext1 ((cart (nss.take m)).take i) ns) H3)
      ⟨cv, dv, rfl, a0⟩ (fun i σ H3 _ ⟨_, _, _, a⟩ => SqL.of (a.same _ _ hr)) ?_ ?_⟩
    · rintro i x σ H3 hi ⟨cv, dv, rfl, a⟩
      obtain ⟨rr, hrr, hrt⟩ := (hx.stay a.same.tups).of hi
      have ilt : i < (cart (nss.take m)).length := (List.getElem?_eq_some_iff.mp hrr).1
      refine ⟨_, rfl, pa, rfl, ⟨_, (sm.trans a.same).seq hpa⟩, for_list (K := K) (a := pa) (xs := ns.map V.int) (fun j σ H4 => ∃ dv : Option V, σ = [some (.ref l), some (.ref r), some (.ref pa), some (.ref q), some x, dv] ∧ AccT H' q (ext1 ((cart (nss.take m)).take i) ns ++ (ns.take j).map fun z => rr ++ [z]) H4 ∧ TupsStay H3 H4)
        ⟨dv, rfl, by simpa using a, TupsStay.refl _⟩ (fun j σ H4 _ ⟨_, _, b, _⟩ => (sm.trans b.same).seq hpa) ?_ ?_⟩
      · rintro j y σ H4 hj ⟨dv, rfl, b, s34⟩
        obtain ⟨z, hz, rfl⟩ := item_of hj
        have jlt : j < ns.length := (List.getElem?_eq_some_iff.mp hz).1
        obtain ⟨ta, rfl, hta⟩ := hrt.stay s34
        obtain ⟨acc0, e0, _⟩ := b.ex
        have total : (ext1 ((cart (nss.take m)).take i) ns).length + ns.length ≤ 2000 := by
          have e := ext1_take (items := ns) hrr
          have l1 : (ext1 ((cart (nss.take m)).take (i + 1)) ns).length ≤ (ext1 (cart (nss.take m)) ns).length := by
            have q : ext1 (cart (nss.take m)) ns = ext1 ((cart (nss.take m)).take (i + 1)) ns ++ ext1 ((cart (nss.take m)).drop (i + 1)) ns := by
              conv => lhs; rw [← List.take_append_drop (i + 1) (cart (nss.take m))]
              unfold ext1
              rw [List.flatMap_append]
            rw [q, List.length_append]
            omega
          rw [e, List.length_append, List.length_map] at l1
          omega
        have rlen : rr.length ≤ 100 := by
          have := mem_cart.mp (List.mem_of_getElem? hrr)
          rw [this.1, List.length_take]
          omega
        refine ⟨_, rfl, .inl ⟨rfl, _, SqL.of e0⟩, _, rfl, _, rfl, (by show 1 ≤ sizeLine; decide), fun t ht => ?_⟩
        have st := same_new ht (.tup [.int z])
        refine ⟨ta, t, rr.map V.int, [.int z], rfl, rfl, st _ _ hta, upd_same, le_sz (by rw [List.length_map]; show _ + 1 ≤ _; omega), fun p5 H5 s5 hp5 => ?_⟩
        have s45 := st.trans s5
        have b5 := b.step s45
        have rt5 : RT H5 (.ref p5) (rr ++ [z]) := ⟨p5, rfl, by rw [List.map_append]; exact hp5⟩
        obtain ⟨acc, e, el, b6⟩ := b5.push rt5
        refine ⟨q, acc, _, rfl, rfl, e, lt_small ?_, ?_⟩
        · rw [el, List.length_append, List.length_map, List.length_take, Nat.min_eq_left (Nat.le_of_lt jlt)]
          omega
        · refine ⟨_, rfl, ?_, s34.trans (s45.tups.trans (tups_lst e))⟩
          rw [take_more hz, List.map_append, ← List.append_assoc]
          exact b6
      · rintro σ H4 ⟨dv, rfl, b, s34⟩
        refine ⟨_, _, rfl, ?_⟩
        rw [List.length_map, List.take_of_length_le (Nat.le_refl _)] at b
        rw [ext1_take hrr]
        exact b
    · rintro σ H3 ⟨cv, dv, rfl, fr3, sm3, acc, e, d⟩
      refine ⟨_, rfl, q, acc, _, _, _, _, rfl, sm.free fr3, sm.trans sm3, e, ?_⟩
      rw [hx', List.take_of_length_le (Nat.le_refl _)] at d
      rw [cart_take hns]
      exact d
  · rintro σ H' ⟨r, xs, av, bv, cv, dv, rfl, fr, sm, hr, hx⟩
    rw [List.take_of_length_le (by rw [hLL.len]; exact Nat.le_refl _)] at hx
    exact ⟨_, rfl, k r H' xs fr sm hr hx⟩
end
section
variable {P : Program} {w : World} {K : PySem.W.Frag} {mg : Str → Option Value} {base : Heap}
theorem itl_walk {a : Addr} {xs : List V} {B : (Hp → Prop) → V → Hp → Prop} {H0 : Hp} {Qd : Hp → Prop} (Pv : Nat → Hp → Prop) (h0 : Pv 0 H0) (hl : ∀ i H, i ≤ xs.length → Pv i H → SqL K H a xs)
    (hs : ∀ i x H, xs[i]? = some x → Pv i H → B (Pv (i + 1)) x H) (hd : ∀ H, Pv xs.length H → Qd H) :
    ∃ W : Nat → Nat → Hp → Prop, (∃ m, W 0 m H0) ∧ ∀ i m H, W i m H →
      ((Itl K a).stop i H ∧ Qd H) ∨ ((Itl K a).go i H ∧ ∃ Nx : Hp → Prop, (∀ H', Nx H' → ∃ m', m' < m ∧ W (i + 1) m' H') ∧ ∀ x H', (Itl K a).yld i H x H' → B Nx x H') := by
  refine ⟨fun i m H => m = xs.length - i ∧ i ≤ xs.length ∧ Pv i H, ⟨xs.length, by simp, Nat.zero_le _, h0⟩, ?_⟩
  rintro i m H ⟨rfl, hi, p⟩
  have q := hl i H hi p
  by_cases hlt : i < xs.length
  · refine .inr ⟨⟨xs, xs[i], q, by simp [hlt]⟩, Pv (i + 1), fun H' p' => ⟨xs.length - (i + 1), by omega, rfl, hlt, p'⟩, fun x H' y => ?_⟩
    obtain ⟨e, y⟩ := y
    subst e
    exact hs i x _ (y xs q) p
  · have e : i = xs.length := by omega
    subst e
    exact .inl ⟨⟨xs, q, Nat.le_refl _⟩, hd H p⟩
def spCh (K : PySem.W.Frag) : Sp := fun vs H Q _ => ∃ (l : Addr) (ls : List V) (nss : List (List Int)), vs = [.ref l] ∧ SqL K H l ls ∧ SLs (SqT K H) ls nss ∧ (∀ m, (cart (nss.take m)).length ≤ 2000) ∧ nss.length ≤ 100 ∧
  ∀ (p : Addr) (H' : Hp) (xs : List V), H p = none → Same H H' → H' p = some (.lst xs) → RTs H' xs (cart nss) → Q (.ref p) H'
set_option maxHeartbeats 2000000 in
theorem ok_choices {f : Addr} {fd : FuncData} (F : Fun K "choices" "choices" schoices f fd) : FnOk P w K mg base CX0 1 f fd ["lists"] (spCh K) := by
  have sc : FnScope ["lists", "rows", "items", "row", "item"] ["lists"] (defScope schoices) := ⟨rfl, rfl, rfl, by decide +kernel, rfl, by decide +kernel, by decide +kernel⟩
  refine F.ok sc (fun vs H Q E h => ?_) (fun cdv A outer s H vs Q E hr h => ?_)
  · obtain ⟨_, _, _, rfl, _⟩ := h
    rfl
  obtain ⟨l, ls, nss, rfl, hl, hLL, hM, h4, k⟩ := h
  refine ⟨_, (pss_cons (ps_set (i := 1) sc.nd rfl (Or.inl rfl) (pe_lst (pa_cons (pe_tup pa_nil) pa_nil)))
    (pss_cons (ps_for PassesOwn.never rfl (pi_list (pv 0)) (pg_name (i := 2) sc.nd rfl (Or.inr rfl))
      (pss_one (ps_setLc2 (i := 1) (own := [("row", 3), ("item", 4)]) (vs1 := [4]) (g := gName 3) (g1 := gName 4) (tt := tYes) (tt1 := tYes) (wi1 := iTup K (tVar 2)) rfl sc.nd rfl rfl (sw_true rfl rfl rfl (by decide +kernel)) (pi_list (pv 1)) (blkOk_by (N := ["lists", "rows", "items", "row", "item"]) (sc := defScope schoices) (by decide +kernel)) (by decide) (fun _ _ _ _ _ => pg_name (i := 3) sc.nd rfl (Or.inl rfl)) (fun _ _ _ _ _ => pts_nil) (fun _ _ _ _ _ => (pi_tup (pv 2))) (fun _ _ _ _ _ => pg_name (i := 4) sc.nd rfl (Or.inl rfl)) (fun _ _ _ _ _ => pts_nil) (fun _ _ _ _ _ => (pe_op op_plusT (pv 3) (pe_tup (pa_cons (pv 4) pa_nil)))))))
    (pss_one (ps_ret (pv 1))))), ?_⟩
  refine ⟨(by show 0 ≤ sizeLine; decide), fun t0 ht0 => ⟨(by show 1 ≤ sizeLine; decide), fun r0 hr0 => ?_⟩⟩
  have s0 := same_new ht0 (.tup [])
  have s1 := same_new hr0 (.lst [.ref t0])
  have s01 := s0.trans s1
  refine ⟨_, rfl, l, rfl, ⟨_, s01.seq hl⟩, for_list (K := K) (a := l) (xs := ls) (fun m σ H' => ∃ (r : Addr) (xs : List V) (av : Option V), σ = [some (.ref l), some (.ref r), av, none, none] ∧
      H r = none ∧ Same H H' ∧ H' r = some (.lst xs) ∧ RTs H' xs (cart (nss.take m)))
    ⟨r0, _, none, rfl, s0.free hr0, s01, upd_same, .cons ⟨t0, rfl, s1 _ _ upd_same⟩ .nil⟩ (fun m σ H' _ ⟨_, _, _, _, _, s, _⟩ => s.seq hl) ?_ ?_⟩
  · rintro m x σ H' hm ⟨r, xs, av, rfl, fr, sm, hr, hx⟩
    obtain ⟨pa, ns, rfl, hns, hpa⟩ := hLL.of hm
    have many := hM (m + 1)
    rw [cart_take hns] at many
    have hx' := hx.len
    refine ⟨_, rfl, r, rfl, ⟨_, SqL.of hr⟩, fun q hq => ?_⟩
    have a0 := AccT.start hq
    refine itl_walk (K := K) (a := r) (xs := xs) (fun i H3 => AccT H' q (ext1 ((cart (nss.take m)).take i) ns) H3) a0 (fun i H3 _ a => SqL.of (a.same _ _ hr)) ?_ ?_
    · rintro i x H3 hi a
      obtain ⟨rr, hrr, hrt⟩ := (hx.stay a.same.tups).of hi
      have ilt : i < (cart (nss.take m)).length := (List.getElem?_eq_some_iff.mp hrr).1
      refine ⟨rfl, ?_⟩
      refine ⟨_, rfl, pa, rfl, ⟨_, (sm.trans a.same).seqT hpa⟩, ?_⟩
      refine itt_walk (K := K) (a := pa) (xs := ns.map V.int) (fun j H4 => AccT H' q (ext1 ((cart (nss.take m)).take i) ns ++ (ns.take j).map fun z => rr ++ [z]) H4 ∧ TupsStay H3 H4) ⟨by simpa using a, TupsStay.refl _⟩ (fun j H4 _ b => (sm.trans b.1.same).seqT hpa) ?_ ?_
      · rintro j y H4 hj ⟨b, s34⟩
        obtain ⟨z, hz, rfl⟩ := item_of hj
        have jlt : j < ns.length := (List.getElem?_eq_some_iff.mp hz).1
        obtain ⟨ta, rfl, hta⟩ := hrt.stay s34
        have total : (ext1 ((cart (nss.take m)).take i) ns).length + ns.length ≤ 2000 := by
          have e := ext1_take (items := ns) hrr
          have l1 : (ext1 ((cart (nss.take m)).take (i + 1)) ns).length ≤ (ext1 (cart (nss.take m)) ns).length := by
            have q : ext1 (cart (nss.take m)) ns = ext1 ((cart (nss.take m)).take (i + 1)) ns ++ ext1 ((cart (nss.take m)).drop (i + 1)) ns := by
              conv => lhs; rw [← List.take_append_drop (i + 1) (cart (nss.take m))]
              unfold ext1
              rw [List.flatMap_append]
            rw [q, List.length_append]
            omega
          rw [e, List.length_append, List.length_map] at l1
          omega
        have rlen : rr.length ≤ 100 := by
          have := mem_cart.mp (List.mem_of_getElem? hrr)
          rw [this.1, List.length_take]
          omega
        refine ⟨rfl, ?_⟩
        refine ⟨_, rfl, _, rfl, (by show 1 ≤ sizeLine; decide), fun t ht => ?_⟩
        have st := same_new ht (.tup [.int z])
        refine ⟨ta, t, rr.map V.int, [.int z], rfl, rfl, st _ _ hta, upd_same, le_sz (by rw [List.length_map]; show _ + 1 ≤ _; omega), fun p5 H5 s5 hp5 => ?_⟩
        have s45 := st.trans s5
        have b5 := b.step s45
        have rt5 : RT H5 (.ref p5) (rr ++ [z]) := ⟨p5, rfl, by rw [List.map_append]; exact hp5⟩
        obtain ⟨acc, e, el, b6⟩ := b5.push rt5
        refine ⟨acc, e, lt_small ?_, ?_, ?_⟩
        · rw [el, List.length_append, List.length_map, List.length_take, Nat.min_eq_left (Nat.le_of_lt jlt)]
          omega
        · rw [take_more hz, List.map_append, ← List.append_assoc]
          exact b6
        · exact s34.trans (s45.tups.trans (tups_lst e))
      · rintro H4 ⟨b, s34⟩
        rw [List.length_map, List.take_of_length_le (Nat.le_refl _)] at b
        rw [ext1_take hrr]
        exact b
    · rintro H3 a
      obtain ⟨acc, e, d⟩ := a.ex
      refine ⟨q, acc, _, rfl, sm.free a.free, sm.trans a.same, e, ?_⟩
      rw [hx', List.take_of_length_le (Nat.le_refl _)] at d
      rw [cart_take hns]
      exact d
  · rintro σ H' ⟨r, xs, av, rfl, fr, sm, hr, hx⟩
    rw [List.take_of_length_le (by rw [hLL.len]; exact Nat.le_refl _)] at hx
    exact ⟨_, rfl, k r H' xs fr sm hr hx⟩
end
section
variable {P : Program} {w : World} {K : PySem.W.Frag} {mg : Str → Option Value} {base : Heap}
def rInT : R2 := fun x y H Q => ∃ (a t : Addr) (kvs : List (List Key × V)) (r : List Int), x = .ref t ∧ H t = some (.tup (r.map V.int)) ∧ y = .ref a ∧ H a = some (.dT kvs) ∧ Q (.bl (valV kvs (r.map Sum.inl)).isSome) H
theorem key_ints (r : List Int) : (r.map Sum.inl : List Key).map kV = r.map V.int := by rw [List.map_map]; rfl
theorem op_inT {X : Cx} (hu : X.A.units + 1 < cLine) : OpR X (compareOp .In) rInT := by
  intro pins s σ H x y v u Q inv rx ry want
  obtain ⟨a, t, kvs, r, rfl, ht, rfl, ha, q⟩ := want
  cases ry
  exact d_in hu inv (DGet.t ha (by rw [key_ints]; exact ht)) rx fun s' J => ⟨.bl _, H, J, rfl, q⟩
/-- a dict that has just these rows as keys -/
def DRows (H : Hp) (a : Addr) (rows : List (List Int)) : Prop := ∃ kvs : List (List Key × V), H a = some (.dT kvs) ∧ ∀ r : List Int, (valV kvs (r.map Sum.inl)).isSome = decide (r ∈ rows)
theorem _root_.L2.Room.u0 {k : Nat} {A : Around} (r : L2.Room k A) : A.units < cLine := by have := r.un; omega
theorem _root_.L2.Room.u1 {k : Nat} {A : Around} (r : L2.Room k A) : A.units + 1 < cLine := by have := r.un; omega
theorem inl_inj {r q : List Int} (h : (r.map Sum.inl : List Key) = q.map Sum.inl) : r = q := by
  have := congrArg (List.map (fun k : Key => match k with | .inl i => i | .inr _ => 0)) h
  simpa [List.map_map, Function.comp_def] using this
/-- a tuple of such rows; a tuple of these -/
def RowsT (K : PySem.W.Frag) (H : Hp) (v : V) (rows : List (List Int)) : Prop := ∃ a xs, v = .ref a ∧ SqT K H a xs ∧ RTs H xs rows
theorem RowsT.stay {H H' : Hp} {v : V} {rows : List (List Int)} (s : TupsStay H H') (h : RowsT K H v rows) : RowsT K H' v rows := by
  obtain ⟨a, xs, rfl, h1, h2⟩ := h
  exact ⟨a, xs, rfl, s.seq h1, h2.stay s⟩
theorem RowsT.dt {H : Hp} {v : V} {rows : List (List Int)} (h : RowsT K H v rows) : Dt K H v (.tuple (rows.map tupI)) := by
  obtain ⟨a, xs, rfl, h1, h2⟩ := h
  exact .tup h1 h2.dt
inductive RAll (R : V → List (List Int) → Prop) : List V → List (List (List Int)) → Prop
  | nil : RAll R [] []
  | cons {v : V} {vs : List V} {rows : List (List Int)} {W : List (List (List Int))} : R v rows → RAll R vs W → RAll R (v :: vs) (rows :: W)
theorem RAll.imp {R R' : V → List (List Int) → Prop} (s : ∀ v r, R v r → R' v r) : ∀ {vs : List V} {W : List (List (List Int))}, RAll R vs W → RAll R' vs W
  | _, _, .nil => .nil
  | _, _, .cons h a => .cons (s _ _ h) (a.imp s)
theorem RAll.len {R : V → List (List Int) → Prop} : ∀ {vs : List V} {W : List (List (List Int))}, RAll R vs W → vs.length = W.length
  | _, _, .nil => rfl
  | _, _, .cons _ a => by rw [List.length_cons, List.length_cons, a.len]
theorem RAll.app {R : V → List (List Int) → Prop} : ∀ {vs ws : List V} {W B : List (List (List Int))}, RAll R vs W → RAll R ws B → RAll R (vs ++ ws) (W ++ B)
  | _, _, _, _, .nil, b => b
  | _, _, _, _, .cons h a, b => .cons h (a.app b)
theorem RAll.of {R : V → List (List Int) → Prop} : ∀ {vs : List V} {W : List (List (List Int))} {i : Nat} {v : V}, RAll R vs W → vs[i]? = some v → ∃ rows, W[i]? = some rows ∧ R v rows
  | _, _, _, _, .nil, e => by simp at e
  | _, _, 0, _, .cons h _, e => by simp at e; subst e; exact ⟨_, rfl, h⟩
  | _, _, i + 1, _, .cons _ a, e => by simpa using a.of (i := i) (by simpa using e)
theorem RAll.at {R : V → List (List Int) → Prop} : ∀ {vs : List V} {W : List (List (List Int))} {i : Nat} {rows : List (List Int)}, RAll R vs W → W[i]? = some rows → ∃ v, vs[i]? = some v ∧ R v rows
  | _, _, _, _, .nil, e => by simp at e
  | _, _, 0, _, .cons h _, e => by simp at e; subst e; exact ⟨_, rfl, h⟩
  | _, _, i + 1, _, .cons _ a, e => by simpa using a.at (i := i) (by simpa using e)
def sideD (W : List (List (List Int))) : PyData := .tuple (W.map fun rows => .tuple (rows.map tupI))
def taskD (D : Int) (ls : List Int) (W B : List (List (List Int))) : PyData := .tuple [.str "task", .int D, tupI ls, sideD W, sideD B]
theorem RAll.dt {H : Hp} : ∀ {vs : List V} {W : List (List (List Int))}, RAll (RowsT K H) vs W → DtAll K H vs (W.map fun rows => PyData.tuple (rows.map tupI))
  | _, _, .nil => .nil
  | _, _, .cons h a => .cons h.dt a.dt
def DR (H : Hp) (v : V) (rows : List (List Int)) : Prop := ∃ a, v = .ref a ∧ DRows H a rows
theorem DR.stay {H H' : Hp} {v : V} {rows : List (List Int)} (s : Same H H') (h : DR H v rows) : DR H' v rows := by
  obtain ⟨a, rfl, kvs, e, d⟩ := h
  exact ⟨a, rfl, kvs, s _ _ e, d⟩
theorem DR.put {H : Hp} {p : Addr} {xs ys : List V} (e : H p = some (.lst xs)) {v : V} {rows : List (List Int)} (h : DR H v rows) : DR (upd H p (.lst ys)) v rows := by
  obtain ⟨a, rfl, kvs, e2, d⟩ := h
  exact ⟨a, rfl, kvs, by rw [upd_ne (ne_of e2 e (fun z => nomatch z))]; exact e2, d⟩
def spLooked (K : PySem.W.Frag) : Sp := fun vs H Q _ => ∃ (a : Addr) (xs : List V) (W : List (List (List Int))), vs = [.ref a] ∧ SqT K H a xs ∧ RAll (RowsT K H) xs W ∧ W.length ≤ 100 ∧ (∀ rows ∈ W, rows.length ≤ 2000) ∧
  ∀ (p : Addr) (H' : Hp) (ds : List V), H p = none → Same H H' → H' p = some (.lst ds) → RAll (DR H') ds W → Q (.ref p) H'
theorem ok_looked {f : Addr} {fd : FuncData} (F : Fun K "looked_up" "looked_up" slooked_up f fd) : FnOk P w K mg base CX0 1 f fd ["inputs"] (spLooked K) := by
  have sc : FnScope ["inputs", "rows", "row"] ["inputs"] (defScope slooked_up) := ⟨rfl, rfl, rfl, by decide +kernel, rfl, by decide +kernel, by decide +kernel⟩
  refine F.ok sc (fun vs H Q E h => ?_) (fun cdv A outer s H vs Q E hr h => ?_)
  · obtain ⟨_, _, _, rfl, _⟩ := h
    rfl
  obtain ⟨a, xs, W, rfl, ha, hW, few, most, k⟩ := h
  have hu0 := hr.u0
  refine ⟨_, (pss_one (ps_ret (pe_lc (own := [("rows", 1)]) (g := gName 1) (tt := tYes) rfl sc.nd (pi_tup (pv 0)) (blkOk_by (N := ["inputs", "rows", "row"]) (sc := defScope slooked_up) (by decide +kernel)) (fun _ _ _ _ _ => pg_name (i := 1) sc.nd rfl (Or.inl rfl)) (fun _ _ _ _ _ => pts_nil) (fun _ _ _ _ _ => (pe_dcT (wi := iTup K (tVar 1)) (own := [("row", 2)]) (g := gName 2) (tt := tYes) hu0 rfl sc.nd (pi_tup (pv 1)) (blkOk_by (N := ["inputs", "rows", "row"]) (sc := _) (by first | rfl | with_unfolding_all rfl)) (fun _ _ _ _ _ => pg_name (i := 2) sc.nd rfl (Or.inl rfl)) (fun _ _ _ _ _ => pts_nil) (fun _ _ _ _ _ => (pv 2)) (fun _ _ _ _ _ => pe_bl)))))), ?_⟩
  refine ⟨_, rfl, a, rfl, ⟨_, ha⟩, fun p hp => ?_⟩
  refine itt_walk (K := K) (a := a) (xs := xs) (fun i H1 => Same H H1 ∧ ∃ ds, H1 p = some (.lst ds) ∧ RAll (DR H1) ds (W.take i)) ⟨same_new hp _, [], upd_same, .nil⟩ (fun i H1 _ z => z.1.seqT ha) ?_ ?_
  · rintro i v H1 hv ⟨s1, ds, hds, hD⟩
    obtain ⟨rows, hrows, rv⟩ := hW.of hv
    obtain ⟨ra, rxs, rfl, hra, hrt⟩ := rv.stay s1.tups
    have long := most rows (List.mem_of_getElem? hrows)
    refine ⟨rfl, ?_⟩
    refine ⟨_, rfl, ra, rfl, ⟨_, hra⟩, fun D hD0 => ?_⟩
    have nDp : D ≠ p := (ne_of_none hds hD0).symm
    refine itt_walk (K := K) (a := ra) (xs := rxs) (fun j H2 => Same H1 H2 ∧ ∃ kvs : List (List Key × V), H2 D = some (.dT kvs) ∧ kvs.length ≤ j ∧ ∀ r : List Int, (valV kvs (r.map Sum.inl)).isSome = decide (r ∈ rows.take j))
      ⟨same_new hD0 _, [], upd_same, Nat.le_refl _, fun r => by rw [List.take_zero]; rfl⟩ (fun j H2 _ z => z.1.seqT hra) ?_ ?_
    · rintro j y H2 hy ⟨s2, kvs, hkv, klen, kin⟩
      obtain ⟨r, hr1, hr2⟩ := (hrt.stay s2.tups).of hy
      obtain ⟨t, rfl, ht⟩ := hr2
      have jl : j < rows.length := (List.getElem?_eq_some_iff.mp hr1).1
      refine ⟨rfl, ?_⟩
      refine ⟨_, rfl, kvs, r.map Sum.inl, t, rfl, by rw [key_ints]; exact ht, hkv, lt_small (by omega), same_own s2 hD0 _, _, upd_same, ?_, fun q => ?_⟩
      · have := length_putK kvs (r.map Sum.inl) (V.bl true)
        omega
      · rw [valV_put, take_more hr1]
        by_cases e : q = r
        · rw [if_pos (by rw [e]), e]
          simp
        · rw [if_neg (fun z => e (inl_inj z)), kin q]
          simp [e]
    · rintro H2 ⟨s2, kvs, hkv, klen, kin⟩
      rw [List.take_of_length_le (by rw [hrt.len]; exact Nat.le_refl _)] at kin
      have e2 := s2 _ _ hds
      refine ⟨ds, e2, lt_small ?_, same_own (s1.trans s2) hp _, _, upd_same, ?_⟩
      · have := hD.len
        rw [List.length_take] at this
        omega
      · rw [take_more hrows]
        exact ((hD.imp fun v r h => (h.stay s2).put e2)).app (.cons (DR.put e2 ⟨D, rfl, kvs, hkv, kin⟩) .nil)
  · rintro H1 ⟨s1, ds, hds, hD⟩
    rw [List.take_of_length_le (by rw [hW.len]; exact Nat.le_refl _)] at hD
    exact k p H1 ds hp s1 hds hD
def spGood (K : PySem.W.Frag) : Sp := fun vs H Q _ => ∃ (d l : Addr) (rows : List (List Int)) (ls : List V) (nss : List (List Int)), vs = [.ref d, .ref l] ∧ DRows H d rows ∧ SqL K H l ls ∧ SLs (SqT K H) ls nss ∧ (∀ m, (cart (nss.take m)).length ≤ 2000) ∧ nss.length ≤ 100 ∧
  ∀ H', Same H H' → Q (.bl ((cart nss).all fun r => decide (r ∈ rows))) H'
theorem ok_good {f : Addr} {fd : FuncData} (B : Blt mg) (gchoices : Has P w K mg base CX0 1 "choices" ["lists"] (spCh K)) (F : Fun K "is_good" "is_good" sis_good f fd) : FnOk P w K mg base CX0 2 f fd ["allowed", "sets"] (spGood K) := by
  have sc : FnScope ["allowed", "sets", "row"] ["allowed", "sets"] (defScope sis_good) := ⟨rfl, rfl, rfl, by decide +kernel, rfl, by decide +kernel, by decide +kernel⟩
  refine F.ok sc (fun vs H Q E h => ?_) (fun cdv A outer s H vs Q E hr h => ?_)
  · obtain ⟨_, _, _, _, _, rfl, _⟩ := h
    rfl
  obtain ⟨d, l, rows, ls, nss, rfl, hd, hl, hLL, hM, h4, k⟩ := h
  have hu1 := hr.u1
  refine ⟨_, (pss_one (ps_ret (pe_callB (cr_all rfl) (by rfl) B.all (by decide +kernel) (pa_cons (pe_lc (own := [("row", 2)]) (g := gName 2) (tt := tYes) rfl sc.nd (pi_list (pc gchoices hr (pa_cons (pv 1) pa_nil))) (blkOk_by (N := ["allowed", "sets", "row"]) (sc := defScope sis_good) (by decide +kernel)) (fun _ _ _ _ _ => pg_name (i := 2) sc.nd rfl (Or.inl rfl)) (fun _ _ _ _ _ => pts_nil) (fun _ _ _ _ _ => (pe_cmpR (op_inT hu1) (pv 2) (pv 0) (by with_unfolding_all rfl)))) pa_nil)))), ?_⟩
  refine ⟨_, rfl, l, ls, nss, rfl, hl, hLL, hM, h4, fun p H1 xs hp0 s1 hp hx => ?_⟩
  have cl : (cart nss).length ≤ 2000 := by
    have := hM nss.length
    rwa [List.take_of_length_le (Nat.le_refl _)] at this
  refine ⟨p, rfl, ⟨_, SqL.of hp⟩, fun q hq => ?_⟩
  refine itl_walk (K := K) (a := p) (xs := xs) (fun i H2 => Same H1 H2 ∧ H2 q = some (.lst ((((cart nss).take i).map fun r => decide (r ∈ rows)).map V.bl))) ⟨same_new hq _, upd_same⟩ (fun i H2 _ z => SqL.of (z.1 _ _ hp)) ?_ ?_
  · rintro i v H2 hv ⟨s2, hH⟩
    obtain ⟨r, hr1, hr2⟩ := (hx.stay s2.tups).of hv
    obtain ⟨t, rfl, ht⟩ := hr2
    obtain ⟨kvs, hkv, kin⟩ := hd
    have il : i < (cart nss).length := (List.getElem?_eq_some_iff.mp hr1).1
    refine ⟨rfl, ?_⟩
    refine ⟨_, rfl, _, rfl, d, t, kvs, r, rfl, ht, rfl, (s1.trans s2) _ _ hkv, ?_⟩
    rw [kin r]
    refine ⟨_, hH, ?_, same_own s2 hq _, ?_⟩
    · rw [List.length_map, List.length_map, List.length_take]
      exact lt_small (by omega)
    · rw [upd_same, take_more hr1, List.map_append, List.map_append]
      rfl
  · rintro H2 ⟨s2, hH⟩
    rw [List.take_of_length_le (by rw [hx.len]; exact Nat.le_refl _)] at hH
    refine ⟨q, _, rfl, SqL.of hH, ?_⟩
    rw [List.all_map]
    exact k H2 (s1.trans s2)
end
/-! ### making greatest -/
theorem sorted_unique : ∀ {a b : List Int}, a.Perm b → a.Pairwise (· ≤ ·) → b.Pairwise (· ≤ ·) → a = b
  | [], b, p, _, _ => by rw [p.nil_eq]
  | x :: a, [], p, _, _ => by cases p.eq_nil
  | x :: a, y :: b, p, h1, h2 => by
    have e : x = y := by
      have hx : x ∈ y :: b := p.mem_iff.mp List.mem_cons_self
      have hy : y ∈ x :: a := p.mem_iff.mpr List.mem_cons_self
      rw [List.pairwise_cons] at h1 h2
      rcases List.mem_cons.mp hx with q | q
      · exact q
      · rcases List.mem_cons.mp hy with q' | q'
        · exact q'.symm
        · have i1 := h2.1 x q
          have i2 := h1.1 y q'
          omega
    subst e
    rw [List.pairwise_cons] at h1 h2
    rw [sorted_unique (p.cons_inv) h1.2 h2.2]
def isort (ns : List Int) : List Int := ns.mergeSort fun a b => decide (a ≤ b)
theorem isort_perm (ns : List Int) : (isort ns).Perm ns := List.mergeSort_perm ns _
theorem isort_pair (ns : List Int) : (isort ns).Pairwise (· ≤ ·) := by
  have p := List.pairwise_mergeSort (le := fun a b : Int => decide (a ≤ b)) (fun a b c h1 h2 => by simp at h1 h2 ⊢; omega) (fun a b => by simp; omega) ns
  exact p.imp fun {a b} h => by simpa using h
theorem isort_of {ns out : List Int} (p : out.Perm ns) (h : out.Pairwise (· ≤ ·)) : out = isort ns := sorted_unique (p.trans (isort_perm ns).symm) h (isort_pair ns)
theorem mem_isort {ns : List Int} {z : Int} : z ∈ isort ns ↔ z ∈ ns := (isort_perm ns).mem_iff
theorem asc_le {a : List Int} (h : a.Pairwise (· < ·)) : a.Pairwise (· ≤ ·) := h.imp fun {a b} x => Int.le_of_lt x
theorem isort_asc {a : List Int} (h : a.Pairwise (· < ·)) : isort a = a := (isort_of (List.Perm.refl a) (asc_le h)).symm
theorem asc_nodup {a : List Int} (h : a.Pairwise (· < ·)) : a.Nodup := h.imp fun {a b} x => by omega
theorem isort_lt {a : List Int} (nd : a.Nodup) : (isort a).Pairwise (· < ·) := by
  have n2 : (isort a).Nodup := (isort_perm a).nodup_iff.mpr nd
  have p := isort_pair a
  exact (List.Pairwise.and p n2).imp fun {a b} h => by
    obtain ⟨h1, h2⟩ := h
    have : a ≠ b := h2
    omega
/-- strictly ascending lists of the same members -/
theorem asc_ext {a b : List Int} (ha : a.Pairwise (· < ·)) (hb : b.Pairwise (· < ·)) (h : ∀ z, z ∈ a ↔ z ∈ b) : a = b :=
  sorted_unique ((List.perm_ext_iff_of_nodup (asc_nodup ha) (asc_nodup hb)).mpr h) (asc_le ha) (asc_le hb)
theorem asc_len : ∀ {a : List Int} {lo hi : Int}, a.Pairwise (· < ·) → (∀ z ∈ a, lo ≤ z ∧ z < hi) → lo ≤ hi → (a.length : Int) ≤ hi - lo
  | [], lo, hi, _, _, h => by simp; omega
  | x :: a, lo, hi, p, m, h => by
    rw [List.pairwise_cons] at p
    have hx := m x List.mem_cons_self
    have r := asc_len (a := a) (lo := x + 1) (hi := hi) p.2 (fun z hz => by
      have := p.1 z hz
      have := m z (List.mem_cons_of_mem _ hz)
      omega) (by omega)
    rw [List.length_cons]
    omega
def G (rows : List (List Int)) (nss : List (List Int)) : Bool := (cart nss).all fun r => decide (r ∈ rows)
theorem G_iff {rows nss : List (List Int)} : G rows nss = true ↔ ∀ r, Pick r nss → r ∈ rows := by
  unfold G
  rw [List.all_eq_true]
  constructor
  · intro h r hr
    exact of_decide_eq_true (h r (mem_cart.mpr hr))
  · intro h r hr
    exact decide_eq_true (h r (mem_cart.mp hr))
theorem pick_mono {x y : List (List Int)} (l : x.length = y.length) (h : ∀ (i : Nat) (a b : List Int), x[i]? = some a → y[i]? = some b → ∀ z ∈ a, z ∈ b) {r : List Int} (p : Pick r x) : Pick r y := by
  refine ⟨p.1.trans l, fun i z b hz hb => ?_⟩
  have il : i < x.length := by
    have := (List.getElem?_eq_some_iff.mp hb).1
    omega
  have ha : x[i]? = some x[i] := List.getElem?_eq_getElem il
  exact h i _ b ha hb z (p.2 i z _ hz ha)
theorem G_mono {rows x y : List (List Int)} (l : x.length = y.length) (h : ∀ (i : Nat) (a b : List Int), x[i]? = some a → y[i]? = some b → ∀ z ∈ a, z ∈ b) (g : G rows y = true) : G rows x = true :=
  G_iff.mpr fun r p => G_iff.mp g r (pick_mono l h p)
theorem set_at {x : List (List Int)} {k i : Nat} {s a : List Int} (h : (x.set k s)[i]? = some a) : (i = k ∧ a = s) ∨ (i ≠ k ∧ x[i]? = some a) := by
  by_cases e : k = i
  · subst e
    rw [List.getElem?_set_self' ] at h
    cases hx : x[k]? with
    | none => rw [hx] at h; cases h
    | some q => rw [hx] at h; exact .inl ⟨rfl, (Option.some.inj h).symm⟩
  · rw [List.getElem?_set_ne e] at h
    exact .inr ⟨fun z => e z.symm, h⟩
/-- a label more: by the new choices, or by all -/
theorem G_more {rows x : List (List Int)} {k : Nat} {s : List Int} {z : Int} (hk : x[k]? = some s) (g : G rows x = true) : G rows (x.set k (isort (s ++ [z]))) = G rows (x.set k [z]) := by
  have kl : k < x.length := (List.getElem?_eq_some_iff.mp hk).1
  rw [Bool.eq_iff_iff]
  constructor
  · refine G_mono (by rw [List.length_set, List.length_set]) fun i a b ha hb y hy => ?_
    rcases set_at ha with ⟨rfl, rfl⟩ | ⟨ne, ha⟩
    · rcases set_at hb with ⟨_, rfl⟩ | ⟨ne, _⟩
      · rw [mem_isort]
        exact List.mem_append.mpr (.inr hy)
      · exact absurd rfl ne
    · rcases set_at hb with ⟨e, _⟩ | ⟨_, hb⟩
      · exact absurd e ne
      · rw [ha] at hb
        cases hb
        exact hy
  · intro gz
    rw [G_iff]
    intro r p
    have rl : r.length = x.length := by rw [p.1, List.length_set]
    have hr : r[k]? = some r[k] := List.getElem?_eq_getElem (by omega)
    have hs : (x.set k (isort (s ++ [z])))[k]? = some (isort (s ++ [z])) := List.getElem?_set_self kl
    have m := p.2 k _ _ hr hs
    rw [mem_isort] at m
    rcases List.mem_append.mp m with m | m
    · refine G_iff.mp g r ⟨rl, fun i y a hy ha => ?_⟩
      by_cases e : i = k
      · subst e
        rw [hr] at hy
        rw [hk] at ha
        cases hy
        cases ha
        exact m
      · exact p.2 i y a hy (by rw [List.getElem?_set_ne (fun q => e q.symm)]; exact ha)
    · refine G_iff.mp gz r ⟨by rw [List.length_set]; exact rl, fun i y a hy ha => ?_⟩
      rcases set_at ha with ⟨rfl, rfl⟩ | ⟨ne, ha⟩
      · rw [hr] at hy
        cases hy
        exact m
      · exact p.2 i y a hy (by rw [List.getElem?_set_ne (fun q => ne q.symm)]; exact ha)
/-- rows of sets as they stand -/
def OkS (ls : List Int) (x : List (List Int)) : Prop := x.length = ls.length ∧ ∀ (i : Nat) (s : List Int) (m : Int), x[i]? = some s → ls[i]? = some m → s.Pairwise (· < ·) ∧ ∀ z ∈ s, 0 ≤ z ∧ z < m
def stepS (rows : List (List Int)) (k : Nat) (x : List (List Int)) (l : Nat) : List (List Int) :=
  if decide ((l : Int) ∈ x.getD k []) = false ∧ G rows (x.set k [(l : Int)]) = true then x.set k (isort (x.getD k [] ++ [(l : Int)])) else x
def growAt (rows : List (List Int)) (k : Nat) (x : List (List Int)) (n : Nat) : List (List Int) := (List.range n).foldl (stepS rows k) x
def grow (rows : List (List Int)) (ls : List Int) (x : List (List Int)) (k : Nat) : List (List Int) := (List.range k).foldl (fun x k => growAt rows k x (ls.getD k 0).toNat) x
theorem growAt_succ (rows : List (List Int)) (k : Nat) (x : List (List Int)) (n : Nat) : growAt rows k x (n + 1) = stepS rows k (growAt rows k x n) n := by
  unfold growAt
  rw [List.range_succ, List.foldl_append]
  rfl
theorem grow_succ (rows : List (List Int)) (ls : List Int) (x : List (List Int)) (k : Nat) : grow rows ls x (k + 1) = growAt rows k (grow rows ls x k) (ls.getD k 0).toNat := by
  unfold grow
  rw [List.range_succ, List.foldl_append]
  rfl
theorem getD_some {x : List (List Int)} {k : Nat} (h : k < x.length) : x[k]? = some (x.getD k []) := by simp [List.getD, h]
/-- what a step keeps -/
structure Keep (rows : List (List Int)) (ls : List Int) (x y : List (List Int)) : Prop where
  ok : OkS ls y
  good : G rows y = true
  more : ∀ (i : Nat) (a b : List Int), x[i]? = some a → y[i]? = some b → ∀ z ∈ a, z ∈ b
theorem Keep.refl {rows : List (List Int)} {ls : List Int} {x : List (List Int)} (o : OkS ls x) (g : G rows x = true) : Keep rows ls x x := ⟨o, g, fun i a b ha hb z hz => by rw [ha] at hb; cases hb; exact hz⟩
theorem Keep.trans {rows : List (List Int)} {ls : List Int} {x y z : List (List Int)} (l : x.length = y.length) (a : Keep rows ls x y) (b : Keep rows ls y z) : Keep rows ls x z := by
  refine ⟨b.ok, b.good, fun i p q hp hq w hw => ?_⟩
  have il : i < y.length := by have := (List.getElem?_eq_some_iff.mp hp).1; omega
  have hy : y[i]? = some y[i] := List.getElem?_eq_getElem il
  exact b.more i _ q hy hq w (a.more i p _ hp hy w hw)
theorem step_keep {rows : List (List Int)} {ls : List Int} {x : List (List Int)} {k l : Nat} {m : Int} (o : OkS ls x) (g : G rows x = true) (hm : ls[k]? = some m) (hl : (l : Int) < m) : Keep rows ls x (stepS rows k x l) := by
  unfold stepS
  by_cases c : decide ((l : Int) ∈ x.getD k []) = false ∧ G rows (x.set k [(l : Int)]) = true
  · rw [if_pos c]
    have kl : k < x.length := by
      have := (List.getElem?_eq_some_iff.mp hm).1
      rw [o.1]
      exact this
    have hk := getD_some kl
    obtain ⟨p, b⟩ := o.2 k _ m hk hm
    have nin : ¬ (l : Int) ∈ x.getD k [] := of_decide_eq_false c.1
    refine ⟨⟨by rw [List.length_set]; exact o.1, fun i s m' hs hm' => ?_⟩, by rw [G_more hk g]; exact c.2, fun i a b' ha hb z hz => ?_⟩
    · rcases set_at hs with ⟨rfl, rfl⟩ | ⟨ne, hs⟩
      · rw [hm] at hm'
        cases hm'
        refine ⟨isort_lt ?_, fun z hz => ?_⟩
        · rw [List.nodup_append]
          exact ⟨asc_nodup p, by simp, fun u hu v hv => by rw [List.mem_singleton.mp hv]; exact fun e => nin (e ▸ hu)⟩
        · rw [mem_isort] at hz
          rcases List.mem_append.mp hz with hz | hz
          · exact b z hz
          · rw [List.mem_singleton.mp hz]
            omega
      · exact o.2 i s m' hs hm'
    · rcases set_at hb with ⟨rfl, rfl⟩ | ⟨ne, hb⟩
      · rw [hk] at ha
        cases ha
        rw [mem_isort]
        exact List.mem_append.mpr (.inl hz)
      · rw [ha] at hb
        cases hb
        exact hz
  · rw [if_neg c]
    exact Keep.refl o g
theorem step_len {rows : List (List Int)} {x : List (List Int)} {k l : Nat} : (stepS rows k x l).length = x.length := by
  unfold stepS
  split
  · rw [List.length_set]
  · rfl
/-- looked at -/
def Done (rows : List (List Int)) (x : List (List Int)) (k l : Nat) : Prop := (l : Int) ∈ x.getD k [] ∨ G rows (x.set k [(l : Int)]) = false
theorem done_mono {rows : List (List Int)} {ls : List Int} {x y : List (List Int)} {k l : Nat} (ln : x.length = y.length) (kp : Keep rows ls x y) (kl : k < x.length) (d : Done rows x k l) : Done rows y k l := by
  have hx := getD_some kl
  have hy := getD_some (x := y) (k := k) (by omega)
  rcases d with d | d
  · exact .inl (kp.more k _ _ hx hy _ d)
  · by_cases gy : G rows (y.set k [(l : Int)]) = true
    · have : G rows (x.set k [(l : Int)]) = true := by
        refine G_mono (by rw [List.length_set, List.length_set, ln]) (fun i a b ha hb z hz => ?_) gy
        rcases set_at ha with ⟨rfl, rfl⟩ | ⟨ne, ha⟩
        · rcases set_at hb with ⟨_, rfl⟩ | ⟨ne, _⟩
          · exact hz
          · exact absurd rfl ne
        · rcases set_at hb with ⟨e, _⟩ | ⟨_, hb⟩
          · exact absurd e ne
          · exact kp.more i a b ha hb z hz
      rw [this] at d
      cases d
    · exact .inr (by simpa using gy)
theorem step_done {rows : List (List Int)} {x : List (List Int)} {k l : Nat} (kl : k < x.length) : Done rows (stepS rows k x l) k l := by
  unfold stepS
  by_cases c : decide ((l : Int) ∈ x.getD k []) = false ∧ G rows (x.set k [(l : Int)]) = true
  · rw [if_pos c]
    refine .inl ?_
    have : (x.set k (isort (x.getD k [] ++ [(l : Int)]))).getD k [] = isort (x.getD k [] ++ [(l : Int)]) := by
      have := List.getElem?_set_self (a := isort (x.getD k [] ++ [(l : Int)])) kl
      rw [List.getD_eq_getElem?_getD, this]
      rfl
    rw [this, mem_isort]
    exact List.mem_append.mpr (.inr (List.mem_singleton.mpr rfl))
  · rw [if_neg c]
    by_cases m : (l : Int) ∈ x.getD k []
    · exact .inl m
    · refine .inr ?_
      cases g : G rows (x.set k [(l : Int)]) with
      | false => rfl
      | true => exact absurd ⟨decide_eq_false m, g⟩ c
theorem growAt_len {rows : List (List Int)} {x : List (List Int)} {k : Nat} : ∀ n, (growAt rows k x n).length = x.length
  | 0 => rfl
  | n + 1 => by rw [growAt_succ, step_len, growAt_len n]
theorem growAt_keep {rows : List (List Int)} {ls : List Int} {x : List (List Int)} {k : Nat} {m : Int} (o : OkS ls x) (g : G rows x = true) (hm : ls[k]? = some m) : ∀ n : Nat, (n : Int) ≤ m → Keep rows ls x (growAt rows k x n) ∧ ∀ l, l < n → Done rows (growAt rows k x n) k l
  | 0, _ => ⟨Keep.refl o g, fun l hl => absurd hl (Nat.not_lt_zero l)⟩
  | n + 1, h => by
    obtain ⟨a, d⟩ := growAt_keep o g hm n (by omega)
    have b := step_keep (l := n) a.ok a.good hm (by omega)
    have len1 := growAt_len (rows := rows) (x := x) (k := k) n
    have kl : k < (growAt rows k x n).length := by
      rw [a.ok.1]
      exact (List.getElem?_eq_some_iff.mp hm).1
    rw [growAt_succ]
    refine ⟨Keep.trans len1.symm a b, fun l hl => ?_⟩
    by_cases e : l = n
    · subst e
      exact step_done kl
    · exact done_mono step_len.symm b kl (d l (by omega))
theorem grow_len {rows : List (List Int)} {ls : List Int} {x : List (List Int)} : ∀ k, (grow rows ls x k).length = x.length
  | 0 => rfl
  | k + 1 => by rw [grow_succ, growAt_len, grow_len k]
theorem grow_keep {rows : List (List Int)} {ls : List Int} {x : List (List Int)} (o : OkS ls x) (g : G rows x = true) (pos : ∀ m ∈ ls, 0 ≤ m) : ∀ k, k ≤ ls.length → Keep rows ls x (grow rows ls x k) ∧ ∀ i, i < k → ∀ l : Nat, (l : Int) < ls.getD i 0 → Done rows (grow rows ls x k) i l
  | 0, _ => ⟨Keep.refl o g, fun i hi => absurd hi (Nat.not_lt_zero i)⟩
  | k + 1, h => by
    obtain ⟨a, d⟩ := grow_keep o g pos k (by omega)
    have hm : ls[k]? = some (ls.getD k 0) := by simp [List.getD, show k < ls.length by omega]
    have p0 := pos _ (List.mem_of_getElem? hm)
    obtain ⟨b, d2⟩ := growAt_keep a.ok a.good hm (ls.getD k 0).toNat (by omega)
    have len1 := grow_len (rows := rows) (ls := ls) (x := x) k
    rw [grow_succ]
    refine ⟨Keep.trans len1.symm a b, fun i hi l hl => ?_⟩
    by_cases e : i = k
    · subst e
      exact d2 l (by omega)
    · refine done_mono (growAt_len _).symm b ?_ (d i (by omega) l hl)
      rw [a.ok.1]
      omega
theorem cart_len {x : List (List Int)} (h : ∀ s ∈ x, s.length ≤ 4) : ∀ m, m ≤ x.length → (cart (x.take m)).length ≤ 4 ^ m
  | 0, _ => by rw [List.take_zero]; decide
  | m + 1, hm => by
    have e : x[m]? = some x[m] := List.getElem?_eq_getElem (by omega)
    have ih := cart_len h m (by omega)
    have s4 := h _ (List.getElem_mem (show m < x.length by omega))
    rw [cart_take e]
    unfold ext1
    have : ∀ l : List (List Int), (l.flatMap fun r => x[m].map fun i => r ++ [i]).length = l.length * x[m].length := fun l => by
      induction l with
      | nil => simp
      | cons a l ih => rw [List.flatMap_cons, List.length_append, ih, List.length_map, List.length_cons, Nat.succ_mul]; omega
    rw [this, Nat.pow_succ]
    exact Nat.mul_le_mul ih s4
theorem cart_few {x : List (List Int)} (h : ∀ s ∈ x, s.length ≤ 4) (hl : x.length ≤ 4) (m : Nat) : (cart (x.take m)).length ≤ 2000 := by
  have go : ∀ n, n ≤ x.length → (cart (x.take n)).length ≤ 2000 := fun n hn => by
    have c := cart_len h n hn
    have : 4 ^ n ≤ 4 ^ 4 := Nat.pow_le_pow_right (by decide) (by omega)
    omega
  by_cases hm : m ≤ x.length
  · exact go m hm
  · have := go x.length (Nat.le_refl _)
    rw [List.take_of_length_le (by omega)]
    rwa [List.take_of_length_le (Nat.le_refl _)] at this
theorem ok_few {ls : List Int} {x : List (List Int)} (o : OkS ls x) (l4 : ∀ m ∈ ls, 0 ≤ m ∧ m ≤ 4) : ∀ s ∈ x, s.length ≤ 4 := fun s hs => by
  obtain ⟨i, hi⟩ := List.getElem?_of_mem hs
  have il : i < ls.length := by rw [← o.1]; exact (List.getElem?_eq_some_iff.mp hi).1
  have hm : ls[i]? = some ls[i] := List.getElem?_eq_getElem il
  obtain ⟨p, b⟩ := o.2 i s _ hi hm
  have m4 := l4 _ (List.getElem_mem il)
  have := asc_len p b m4.1
  omega
/-! ### making greatest, by the text -/
section
variable {P : Program} {w : World} {K : PySem.W.Frag} {mg : Str → Option Value} {base : Heap}
/-- tuple(l) of a list; list(t) of a tuple -/
def rTupOfL (K : PySem.W.Frag) : List V → Hp → VK → Prop := fun vs H Q => ∃ (a : Addr) (xs : List V), vs = [.ref a] ∧ SqL K H a xs ∧ ∀ p, H p = none → Q (.ref p) (upd H p (.tup xs))
theorem call_tupL {X : Cx} : CallR X (.type "tuple") (rTupOfL X.K) := fun pins s σ H vs us Q J r want => by
  obtain ⟨a, xs, rfl, h1, q⟩ := want
  exact call_tuple_of pins s σ H _ us Q J r ⟨a, xs, rfl, .inl ⟨h1, q⟩⟩
def rListOfT (K : PySem.W.Frag) : List V → Hp → VK → Prop := fun vs H Q => ∃ (a : Addr) (xs : List V), vs = [.ref a] ∧ SqT K H a xs ∧ ∀ p, H p = none → Q (.ref p) (upd H p (.lst xs))
theorem call_listT {X : Cx} : CallR X (.type "list") (rListOfT X.K) := fun pins s σ H vs us Q J r want => by
  obtain ⟨a, xs, rfl, h1, q⟩ := want
  exact call_list_of pins s σ H _ us Q J r ⟨a, xs, rfl, .inr h1, q⟩
theorem RTs.sls {H : Hp} : ∀ {vs : List V} {rs : List (List Int)}, RTs H vs rs → SLs (SqT K H) vs rs
  | _, _, .nil => .nil
  | _, _, .cons ⟨t, e, h⟩ a => by
    subst e
    exact .cons (SqT.of h) a.sls
theorem RTs.set {H : Hp} {v : V} {q : List Int} (h : RT H v q) : ∀ {vs : List V} {rs : List (List Int)} (n : Nat), RTs H vs rs → RTs H (vs.set n v) (rs.set n q)
  | _, _, _, .nil => .nil
  | _, _, 0, .cons _ a => .cons h a
  | _, _, n + 1, .cons h' a => .cons h' (a.set h n)
theorem set_cut {α : Type} {l : List α} {n : Nat} {x : α} (h : n < l.length) : l.take n ++ [x] ++ l.drop (n + 1) = l.set n x := by
  rw [List.set_eq_take_append_cons_drop, if_pos h, List.append_assoc]
  rfl
theorem inV_int (z : Int) : ∀ ns : List Int, inV (.int z) (ns.map V.int) = decide (z ∈ ns)
  | [] => rfl
  | y :: ns => by
    have ih := inV_int z ns
    unfold inV at ih ⊢
    rw [List.map_cons, List.any_cons, ih]
    show (decide (y = z) || _) = _
    by_cases e : y = z
    · subst e
      simp
    · have e' : ¬ z = y := fun q => e q.symm
      simp [e, e']
theorem flat_ints (ns : List Int) : (ns.map V.int).all flatV = true := by simp [flatV]
theorem getD_at {α : Type} {l : List α} {i : Nat} {x d : α} (h : l[i]? = some x) : l.getD i d = x := by rw [List.getD_eq_getElem?_getD, h]; rfl
theorem okS_set {ls : List Int} {x : List (List Int)} {k l : Nat} {m : Int} (o : OkS ls x) (hm : ls[k]? = some m) (hl : (l : Int) < m) : OkS ls (x.set k [(l : Int)]) := by
  refine ⟨by rw [List.length_set]; exact o.1, fun i s m' hs hm' => ?_⟩
  rcases set_at hs with ⟨rfl, rfl⟩ | ⟨_, hs⟩
  · rw [hm] at hm'
    cases hm'
    refine ⟨List.pairwise_singleton _ _, fun z hz => ?_⟩
    rw [List.mem_singleton] at hz
    omega
  · exact o.2 i s m' hs hm'
theorem ix_at {n i : Nat} (h : i < n) : ixN n (0 + (i : Int)) = some i := by
  unfold ixN
  rw [if_pos (by omega), if_pos (by omega)]
  congr 1
  omega
def spGrown (K : PySem.W.Frag) : Sp := fun vs H Q _ => ∃ (d t l : Addr) (rows : List (List Int)) (ls : List Int) (sv : List V) (nss : List (List Int)), vs = [.ref d, .ref t, .ref l] ∧ DRows H d rows ∧ SqT K H t (ls.map V.int) ∧ SqL K H l sv ∧ RTs H sv nss ∧ OkS ls nss ∧
  (∀ m ∈ ls, 0 ≤ m ∧ m ≤ 4) ∧ ls.length ≤ 4 ∧ (G rows nss = false → ∀ H', Same H H' → Q .non H') ∧ (G rows nss = true → ∀ (p : Addr) (H' : Hp) (xs : List V), Same H H' → SqT K H' p xs → RTs H' xs (grow rows ls nss ls.length) → Q (.ref p) H')
theorem DRows.stay {H H' : Hp} {a : Addr} {rows : List (List Int)} (s : Same H H') (h : DRows H a rows) : DRows H' a rows := by
  obtain ⟨kvs, e, q⟩ := h
  exact ⟨kvs, s _ _ e, q⟩
theorem same_few {ls : List Int} {x : List (List Int)} (o : OkS ls x) (l4 : ∀ m ∈ ls, 0 ≤ m ∧ m ≤ 4) (h4 : ls.length ≤ 4) (m : Nat) : (cart (x.take m)).length ≤ 2000 := cart_few (ok_few o l4) (by rw [o.1]; exact h4) m
set_option maxHeartbeats 1000000 in
theorem ok_grown {f : Addr} {fd : FuncData} (B : Blt mg) (gis_good : Has P w K mg base CX0 2 "is_good" ["allowed", "sets"] (spGood K)) (F : Fun K "grown" "grown" sgrown f fd) : FnOk P w K mg base CX0 3 f fd ["allowed", "labels", "sets"] (spGrown K) := by
  have sc : FnScope ["allowed", "labels", "sets", "row", "at", "label"] ["allowed", "labels", "sets"] (defScope sgrown) := ⟨rfl, rfl, rfl, by decide +kernel, rfl, by decide +kernel, by decide +kernel⟩
  refine F.ok sc (fun vs H Q E h => ?_) (fun cdv A outer s H vs Q E hr h => ?_)
  · obtain ⟨_, _, _, _, _, _, _, rfl, _⟩ := h
    rfl
  obtain ⟨d, t, l, rows, ls, sv, nss, rfl, hd, ht, hl, hS, ok, l4, h4, kn, kg⟩ := h
  refine ⟨_, (pss_cons (ps_if (pt_not (pt_val (pc gis_good hr (pa_cons (pv 0) (pa_cons (pv 2) pa_nil)))))
      (pss_one (ps_ret pe_non))
      pss_nil)
    (pss_cons (ps_set (i := 3) sc.nd rfl (Or.inl rfl) (pe_callTy call_list_of (by rfl) B.list (by decide +kernel) (pa_cons (pv 2) pa_nil)))
    (pss_cons (ps_for PassesOwn.never rfl (pi_range1 (by rfl) B.range (pa_cons (pe_callB call_len_seq (by rfl) B.len (by decide +kernel) (pa_cons (pv 1) pa_nil)) pa_nil)) (pg_name (i := 4) sc.nd rfl (Or.inl rfl))
      (pss_one (ps_for PassesOwn.never rfl (pi_range1 (by rfl) B.range (pa_cons (pe_ix ix_tup (pv 1) (pv 4) (fun _ _ => rfl)) pa_nil)) (pg_name (i := 5) sc.nd rfl (Or.inl rfl))
        (pss_one (ps_if (PW.pt (pw_and (pt_cmpR op_notIn_seq (pv 5) (pe_ix ix_list (pv 3) (pv 4) (fun _ _ => rfl)) (by with_unfolding_all rfl)) (pw_and1 (pt_val (pc gis_good hr (pa_cons (pv 0) (pa_cons (pe_op op_cat (pe_op op_cat (pe_slice sl_list (pv 3) po_none (po_some (pv 4))) (pe_lst (pa_cons (pe_tup (pa_cons (pv 5) pa_nil)) pa_nil))) (pe_slice sl_list (pv 3) (po_some (pe_op op_add (pv 4) pe_int)) po_none)) pa_nil)))))))
          (pss_one (ps_asg (pe_callTy call_tuple_of (by rfl) B.tuple (by decide +kernel) (pa_cons (pe_callB (show CallR _ _ (rSortTI K) from cr_sortTI) (by rfl) B.sorted (by decide +kernel) (pa_cons (pe_op op_plusT (pe_ix ix_list (pv 3) (pv 4) (fun _ _ => rfl)) (pe_tup (pa_cons (pv 5) pa_nil))) pa_nil)) pa_nil)) (pg_sub (pv 3) (pv 4) set_list)))
          pss_nil)))))
    (pss_one (ps_ret (pe_callTy call_tuple_of (by rfl) B.tuple (by decide +kernel) (pa_cons (pv 3) pa_nil))))))), ?_⟩
  have n4 : nss.length ≤ 100 := by rw [ok.1]; omega
  refine ⟨_, rfl, _, rfl, d, l, rows, sv, nss, rfl, hd, hl, hS.sls, same_few ok l4 h4, n4, fun H1 s1 => ⟨_, rfl, ?_⟩⟩
  rw [show ((cart nss).all fun r => decide (r ∈ rows)) = G rows nss from rfl]
  cases hg : G rows nss with
  | false =>
    refine iteT ?_
    exact kn hg H1 s1
  | true =>
  refine iteF ?_
  refine ⟨_, rfl, l, _, rfl, .inl (s1.seq hl), fun r0 hr0 => ?_⟩
  have s2 := same_new hr0 (.lst sv)
  have s12 := s1.trans s2
  have hr0' : H r0 = none := s1.free hr0
  have pos0 : ∀ m ∈ ls, 0 ≤ m := fun m hm => (l4 m hm).1
  refine ⟨_, rfl, t, _, rfl, .inr (s12.seqT ht), (((ls.map V.int).length : Nat) : Int), rfl, by omega, by rw [List.length_map]; omega, for_range (lo := 0) (n := (((ls.map V.int).length : Nat) : Int).toNat) (fun i σ H' => ∃ (xs : List V) (av bv : Option V), σ = [some (.ref d), some (.ref t), some (.ref l), some (.ref r0), av, bv] ∧
      Same H H' ∧ H' r0 = some (.lst xs) ∧ RTs H' xs (grow rows ls nss i)) ⟨sv, none, none, rfl, s12, upd_same, hS.stay s12.tups⟩ ?_ ?_⟩
  · rintro i σ H2 hi ⟨xs, av, bv, rfl, sm, hr, hx⟩
    have il : i < ls.length := by
      rw [List.length_map] at hi
      omega
    have hm : ls[i]? = some ls[i] := List.getElem?_eq_getElem il
    have m4 := l4 _ (List.getElem_mem il)
    obtain ⟨kp, _⟩ := grow_keep ok hg pos0 i (Nat.le_of_lt il)
    have tn : ((ls[i] : Int).toNat : Int) = ls[i] := Int.toNat_of_nonneg m4.1
    have gd : ls.getD i 0 = ls[i] := getD_at hm
    refine ⟨_, rfl, _, rfl, t, _, _, _, rfl, rfl, sm.seqT ht, at_of (j := i) (by omega) (show (ls.map V.int)[i]? = some (V.int ls[i]) by rw [List.getElem?_map, hm]; rfl), ls[i], rfl, by omega, by omega, for_range (lo := 0) (n := (ls[i] : Int).toNat) (fun j σ H3 => ∃ (xs : List V) (bv : Option V), σ = [some (.ref d), some (.ref t), some (.ref l), some (.ref r0), some (.int (0 + (i : Int))), bv] ∧
      Same H H3 ∧ H3 r0 = some (.lst xs) ∧ RTs H3 xs (growAt rows i (grow rows ls nss i) j)) ⟨xs, bv, rfl, sm, hr, hx⟩ ?_ ?_⟩
    · rintro j σ H3 hj ⟨xs, bv, rfl, sm, hr, hx⟩
      obtain ⟨kq, _⟩ := growAt_keep kp.ok kp.good hm j (by omega)
      generalize hy : growAt rows i (grow rows ls nss i) j = y at kq hx
      have yl : y.length = ls.length := kq.ok.1
      have hyi : y[i]? = some y[i] := List.getElem?_eq_getElem (by omega)
      obtain ⟨v, hv, ta, rfl, hta⟩ := hx.at hyi
      have gy : y.getD i [] = y[i] := getD_at hyi
      have stay : ∀ H4, Same H3 H4 → stepS rows i y j = y → ∃ (xs : List V) (bv : Option V), [some (V.ref d), some (.ref t), some (.ref l), some (.ref r0), some (.int (0 + (i : Int))), some (.int (0 + (j : Int)))] = [some (V.ref d), some (.ref t), some (.ref l), some (.ref r0), some (.int (0 + (i : Int))), bv] ∧ Same H H4 ∧ H4 r0 = some (.lst xs) ∧ RTs H4 xs (growAt rows i (grow rows ls nss i) (j + 1)) := fun H4 s34 e => by
        refine ⟨xs, _, rfl, sm.trans s34, s34 _ _ hr, ?_⟩
        rw [growAt_succ, hy, e]
        exact hx.stay s34.tups
      have xlen : xs.length = y.length := hx.len
      have cut_a : cutV xs none (some (0 + (i : Int))) = xs.take i := by rw [show (0 + (i : Int)) = ((i : Nat) : Int) by omega, cut_to]
      have cut_b : cutV xs (some (0 + (i : Int) + 1)) none = xs.drop (i + 1) := by rw [show (0 + (i : Int)) + 1 = ((i + 1 : Nat) : Int) by omega, cut_from]
      have ylen : y.length ≤ 4 := by omega
      refine ⟨_, rfl, _, rfl, _, rfl, r0, _, _, _, rfl, rfl, SqL.of hr, at_of (j := i) (by omega) hv, ta, _, rfl, .inr (SqT.of hta), rfl, flat_ints _, ?_⟩
      rw [inV_int]
      refine ⟨!decide ((j : Int) ∈ y[i]), by rw [Int.zero_add]; rfl, ?_⟩
      cases hin : decide ((j : Int) ∈ y[i]) with
      | true =>
        refine iteF ?_
        refine stay H3 (Same.refl _) ?_
        unfold stepS
        rw [if_neg]
        rintro ⟨h, _⟩
        rw [gy, hin] at h
        cases h
      | false =>
        refine iteT ?_
        refine ⟨_, rfl, _, rfl, _, rfl, _, rfl, r0, xs, rfl, SqL.of hr, fun p1 hp1 => ?_⟩
        rw [cut_a]
        have u1 := same_new hp1 (.lst (xs.take i))
        refine ⟨_, rfl, (by show 1 ≤ sizeLine; decide), fun t1 ht1 => ⟨(by show 1 ≤ sizeLine; decide), fun l1 hl1 => ?_⟩⟩
        have u2 := same_new ht1 (.tup [V.int (0 + (j : Int))])
        have u3 := same_new hl1 (.lst [V.ref t1])
        refine ⟨p1, l1, _, _, rfl, rfl, u3 _ _ (u2 _ _ upd_same), upd_same, le_sz (by rw [List.length_take]; show _ + 1 ≤ _; omega), fun p2 hp2 => ?_⟩
        have u4 := same_new hp2 (.lst (xs.take i ++ [V.ref t1]))
        have u14 := u1.trans (u2.trans (u3.trans u4))
        refine ⟨_, rfl, _, rfl, _, _, rfl, rfl, _, rfl, r0, xs, rfl, SqL.of (u14 _ _ hr), fun p3 hp3 => ?_⟩
        rw [cut_b]
        have u5 := same_new hp3 (.lst (xs.drop (i + 1)))
        refine ⟨p2, p3, _, _, rfl, rfl, u5 _ _ upd_same, upd_same, le_sz (by rw [List.length_append, List.length_take, List.length_drop]; show _ + 1 + _ ≤ _; omega), fun p4 hp4 => ?_⟩
        have u6 := same_new hp4 (.lst (xs.take i ++ [V.ref t1] ++ xs.drop (i + 1)))
        have ux := u14.trans (u5.trans u6)
        have t1at := u6 _ _ (u5 _ _ (u4 _ _ (u3 _ _ (upd_same (H := _) (a := t1) (o := .tup [V.int (0 + (j : Int))])))))
        refine ⟨d, p4, rows, _, y.set i [(j : Int)], rfl, hd.stay (sm.trans ux), SqL.of upd_same, ?_, same_few (okS_set kq.ok hm (by omega)) l4 h4, by rw [List.length_set]; omega, fun H5 s5 => ?_⟩
        · have q := RTs.sls (K := K) (RTs.set (show RT _ (.ref t1) [(j : Int)] from ⟨t1, rfl, t1at.trans (by rw [Int.zero_add]; rfl)⟩) i (hx.stay ux.tups))
          rwa [← set_cut (show i < xs.length by omega)] at q
        refine ⟨_, rfl, ?_⟩
        rw [show ((cart (y.set i [(j : Int)])).all fun r => decide (r ∈ rows)) = G rows (y.set i [(j : Int)]) from rfl]
        have s35 := ux.trans s5
        cases hg2 : G rows (y.set i [(j : Int)]) with
        | false =>
          refine iteF ?_
          refine stay H5 s35 ?_
          unfold stepS
          rw [if_neg]
          rintro ⟨_, h⟩
          rw [hg2] at h
          cases h
        | true =>
          refine iteT ?_
          have s5t := s35.tups
          have hr5 := s35 _ _ hr
          have hta5 := s5t _ _ (.inl ⟨_, rfl⟩) hta
          refine ⟨_, rfl, _, rfl, r0, _, _, _, rfl, rfl, SqL.of hr5, at_of (j := i) (by omega) hv, _, rfl, (by show 1 ≤ sizeLine; decide), fun t2 ht2 => ?_⟩
          have v1 := same_new ht2 (.tup [V.int (0 + (j : Int))])
          have few : y[i].length ≤ 4 := ok_few kq.ok l4 _ (List.getElem_mem _)
          refine ⟨ta, t2, _, _, rfl, rfl, v1 _ _ hta5, upd_same, le_sz (by rw [List.length_map]; show _ + 1 ≤ _; omega), fun p5 H6 s6 hp5 => ?_⟩
          refine ⟨p5, y[i] ++ [(j : Int)], rfl, SqT.of (hp5.trans (by rw [List.map_append, Int.zero_add]; rfl)), fun ns' p6 pm pw hp6 => ?_⟩
          have e6 := isort_of pm pw
          subst e6
          have v3 := same_new hp6 (.lst ((isort (y[i] ++ [(j : Int)])).map V.int))
          refine ⟨p6, _, rfl, .inl ⟨SqL.of upd_same, fun p7 hp7 => ?_⟩⟩
          have v4 := same_new hp7 (.tup ((isort (y[i] ++ [(j : Int)])).map V.int))
          have s37 := s35.trans ((v1.trans s6).trans (v3.trans v4))
          have hr7 := s37 _ _ hr
          have hx7 := hx.stay s37.tups
          refine ⟨_, rfl, _, rfl, r0, xs, _, i, rfl, rfl, hr7, ix_at (show i < xs.length by omega), ?_⟩
          refine ⟨xs.set i (.ref p7), _, rfl, same_own (sm.trans s37) hr0' _, upd_same, ?_⟩
          have tl := tups_lst (ys := xs.set i (.ref p7)) hr7
          have e : growAt rows i (grow rows ls nss i) (j + 1) = y.set i (isort (y[i] ++ [(j : Int)])) := by
            rw [growAt_succ, hy]
            unfold stepS
            rw [if_pos ⟨by rw [gy]; exact hin, hg2⟩, gy]
          rw [e]
          exact RTs.set (RT.stay tl ⟨p7, rfl, upd_same⟩) i (hx7.stay tl)
    · rintro σ H3 ⟨xs, bv, rfl, sm, hr, hx⟩
      refine ⟨xs, _, _, rfl, sm, hr, ?_⟩
      rw [grow_succ, gd]
      exact hx
  · rintro σ H2 ⟨xs, av, bv, rfl, sm, hr, hx⟩
    rw [List.length_map] at hx
    refine ⟨_, rfl, r0, xs, rfl, .inl ⟨SqL.of hr, fun p hp => ?_⟩⟩
    have s3 := same_new hp (.tup xs)
    exact kg hg p _ xs (sm.trans s3) (SqT.of upd_same) (hx.stay s3.tups)
end
section
variable {P : Program} {w : World} {K : PySem.W.Frag} {mg : Str → Option Value} {base : Heap}
/-- sets as they are handed in: lists and tuples -/
def Mix (K : PySem.W.Frag) (H : Hp) (a : Addr) (xs : List V) : Prop := SqL K H a xs ∨ SqT K H a xs
theorem Mix.stay {H H' : Hp} (s : Same H H') {a : Addr} {xs : List V} (h : Mix K H a xs) : Mix K H' a xs := h.imp (fun q => s.seq q) (fun q => s.seqT q)
def Means (shn plain : List (List Int)) : Prop := shn.length = plain.length ∧ ∀ (i : Nat) (s p : List Int), shn[i]? = some s → plain[i]? = some p → s.length ≤ 63 ∧ p.Pairwise (· < ·) ∧ ∀ z, z ∈ p ↔ z ∈ s
def spMade (K : PySem.W.Frag) (C : Addr) : Sp := fun vs H Q E => ∃ (M : Addr → Prop) (x s : V) (d : PyData) (n : Nat), vs = [x, .int n, s] ∧ Dn M K H x d ∧ d.bulk ≤ 1000000 ∧ WordOk d ∧ ((isTask d = false ∧ ∀ H', Same H H' → E (.ref C) none H') ∨
  (isTask d = true ∧ ∃ (a la ba sa : Addr) (v0 v1 v3 : V) (ls : List Int) (bxs sv : List V) (W : List (List (List Int))) (rows shn plain : List (List Int)), x = .ref a ∧ s = .ref sa ∧ SqT K H a [v0, v1, .ref la, v3, .ref ba] ∧ SqT K H la (ls.map V.int) ∧ SqT K H ba bxs ∧ RAll (RowsT K H) bxs W ∧
    W.length ≤ 100 ∧ (∀ rows ∈ W, rows.length ≤ 2000) ∧ W[n]? = some rows ∧ Mix K H sa sv ∧ SLs (Mix K H) sv shn ∧ Means shn plain ∧ OkS ls plain ∧ (∀ m ∈ ls, 0 ≤ m ∧ m ≤ 4) ∧ ls.length ≤ 4 ∧
    (G rows plain = false → ∀ H', Same H H' → Q .non H') ∧ (G rows plain = true → ∀ (p : Addr) (H' : Hp) (xs : List V), Same H H' → SqT K H' p xs → RTs H' xs (grow rows ls plain ls.length) → Q (.ref p) H')))
theorem num_nat {n m : Nat} (h : n < m) : isNum (.int (n : Int)) 0 ((m : Int) - 1) = true := by
  show (decide ((0 : Int) ≤ n) && decide ((n : Int) ≤ (m : Int) - 1)) = true
  rw [decide_eq_true (by omega), decide_eq_true (by omega)]
  rfl
set_option maxHeartbeats 1000000 in
theorem ok_made {C : Addr} {f : Addr} {fd : FuncData} (B : Blt mg) (gcheck_task : Has P w K mg base (L2.CX P w) 6 "check_task" ["task"] (spCheckT K C)) (gis_number : Has P w K mg base CX0 1 "is_number" ["value", "low", "high"] (spNumber K)) (glooked_up : Has P w K mg base CX0 1 "looked_up" ["inputs"] (spLooked K))
    (ggrown : Has P w K mg base CX0 3 "grown" ["allowed", "labels", "sets"] (spGrown K)) (F : Fun K "made_greatest" "made_greatest" smade_greatest f fd) : FnOk P w K mg base (L2.CX P w) 7 f fd ["task", "number", "sets"] (spMade K C) := by
  have sc : FnScope ["task", "number", "sets", "_", "labels", "black", "names"] ["task", "number", "sets"] (defScope smade_greatest) := ⟨rfl, rfl, rfl, by decide +kernel, rfl, by decide +kernel, by decide +kernel⟩
  refine F.okX sc (fun vs H Q E h => ?_) (fun cdv A outer s H vs Q E hr h => ?_)
  · obtain ⟨_, _, _, _, _, rfl, _⟩ := h
    rfl
  obtain ⟨M, x, sx, d, n, rfl, hd, hb, hw, h⟩ := h
  rcases h with ⟨hn, kf⟩ | ⟨hT, a, la, ba, sa, v0, v1, v3, ls, bxs, sv, W, rows, shn, plain, rfl, rfl, ha, hla, hba, hW, W100, R2, hrow, hsa, hsv, mean, ok, l4, h4, kn, kg⟩
  · refine ⟨_, (pss_cons (ps_expr (pcE gcheck_task hr (takes_of rfl rfl rfl rfl) (pa_cons (pv 0) pa_nil)))
    (pss_cons (ps_asg (pv 0) (pg_tup rfl (pgs_cons (pg_name (i := 3) sc.nd rfl (Or.inl rfl)) (pgs_cons (pg_name (i := 3) sc.nd rfl (Or.inl rfl)) (pgs_cons (pg_name (i := 4) sc.nd rfl (Or.inl rfl)) (pgs_cons (pg_name (i := 3) sc.nd rfl (Or.inl rfl)) (pgs_cons (pg_name (i := 5) sc.nd rfl (Or.inl rfl)) pgs_nil)))))))
    (pss_cons (ps_if (pt_not (pt_val (pc gis_number hr (pa_cons (pv 1) (pa_cons pe_int (pa_cons (pe_op op_sub (pe_callB call_len_seq (by rfl) B.len (by decide +kernel) (pa_cons (pv 5) pa_nil)) pe_int) pa_nil))))))
      (pss_one (ps_ret pe_non))
      pss_nil)
    (pss_one (ps_ret (pc ggrown hr (pa_cons (pe_ix ix_list (pc glooked_up hr (pa_cons (pv 5) pa_nil)) (pv 1) (fun _ _ => rfl)) (pa_cons (pv 4) (pa_cons (pe_lc (own := [("names", 6)]) (g := gName 6) (tt := tYes) rfl sc.nd (pi_list (pv 2)) (blkOk_by (N := ["task", "number", "sets", "_", "labels", "black", "names"]) (sc := defScope smade_greatest) (by decide +kernel)) (fun _ _ _ _ _ => pg_name (i := 6) sc.nd rfl (Or.inl rfl)) (fun _ _ _ _ _ => pts_nil) (fun _ _ _ _ _ => (pe_callTy (show CallR _ _ (rTupOfL K) from call_tupL) (by rfl) B.tuple (by decide +kernel) (pa_cons (pe_callB (show CallR _ _ (rSortedSet w) from cr_sortedSet rfl) (by rfl) B.sorted (by decide +kernel) (pa_cons (pe_callTy (show CallR _ _ (rSetOfI K w) from cr_setOfI rfl) (by rfl) B.set (by decide +kernel) (pa_cons (pv 6) pa_nil)) pa_nil)) pa_nil)))) pa_nil))))))))), ?_⟩
    exact ⟨_, rfl, M, x, d, rfl, hd, hb, hw, (fun z => by rw [z] at hn; cases hn), fun _ => kf⟩
  have nW : n < W.length := (List.getElem?_eq_some_iff.mp hrow).1
  have p4 : plain.length ≤ 4 := by rw [ok.1]; exact h4
  rcases hsa with hsa | hsa
  · refine ⟨_, (pss_cons (ps_expr (pcE gcheck_task hr (takes_of rfl rfl rfl rfl) (pa_cons (pv 0) pa_nil)))
    (pss_cons (ps_asg (pv 0) (pg_tup rfl (pgs_cons (pg_name (i := 3) sc.nd rfl (Or.inl rfl)) (pgs_cons (pg_name (i := 3) sc.nd rfl (Or.inl rfl)) (pgs_cons (pg_name (i := 4) sc.nd rfl (Or.inl rfl)) (pgs_cons (pg_name (i := 3) sc.nd rfl (Or.inl rfl)) (pgs_cons (pg_name (i := 5) sc.nd rfl (Or.inl rfl)) pgs_nil)))))))
    (pss_cons (ps_if (pt_not (pt_val (pc gis_number hr (pa_cons (pv 1) (pa_cons pe_int (pa_cons (pe_op op_sub (pe_callB call_len_seq (by rfl) B.len (by decide +kernel) (pa_cons (pv 5) pa_nil)) pe_int) pa_nil))))))
      (pss_one (ps_ret pe_non))
      pss_nil)
    (pss_one (ps_ret (pc ggrown hr (pa_cons (pe_ix ix_list (pc glooked_up hr (pa_cons (pv 5) pa_nil)) (pv 1) (fun _ _ => rfl)) (pa_cons (pv 4) (pa_cons (pe_lc (own := [("names", 6)]) (g := gName 6) (tt := tYes) rfl sc.nd (pi_list (pv 2)) (blkOk_by (N := ["task", "number", "sets", "_", "labels", "black", "names"]) (sc := defScope smade_greatest) (by decide +kernel)) (fun _ _ _ _ _ => pg_name (i := 6) sc.nd rfl (Or.inl rfl)) (fun _ _ _ _ _ => pts_nil) (fun _ _ _ _ _ => (pe_callTy (show CallR _ _ (rTupOfL K) from call_tupL) (by rfl) B.tuple (by decide +kernel) (pa_cons (pe_callB (show CallR _ _ (rSortedSet w) from cr_sortedSet rfl) (by rfl) B.sorted (by decide +kernel) (pa_cons (pe_callTy (show CallR _ _ (rSetOfI K w) from cr_setOfI rfl) (by rfl) B.set (by decide +kernel) (pa_cons (pv 6) pa_nil)) pa_nil)) pa_nil)))) pa_nil))))))))), ?_⟩
    refine ⟨_, rfl, M, _, d, rfl, hd, hb, hw, fun _ H1 s1 => ?_, fun z => by rw [hT] at z; cases z⟩
    refine ⟨_, rfl, a, _, rfl, s1.seqT ha, rfl, _, _, rfl, _, _, rfl, _, _, rfl, _, _, rfl, _, _, rfl, rfl, ?_⟩
    refine ⟨_, rfl, _, rfl, ba, _, rfl, .inr (s1.seqT hba), _, _, rfl, rfl, (fun _ => False), .int n, .int n, 0, _, rfl, .int n, _, rfl, ?_⟩
    rw [hW.len, num_nat nW]
    refine iteF ?_
    refine ⟨_, rfl, ba, bxs, W, rfl, s1.seqT hba, hW.imp (fun v r h => h.stay s1.tups), W100, R2, fun p H2 ds hp0 s2 hp hD => ?_⟩
    have s12 := s1.trans s2
    obtain ⟨v, hv, D, rfl, hDD⟩ := hD.at hrow
    refine ⟨_, rfl, p, _, _, _, rfl, rfl, SqL.of hp, at_of (j := n) (by omega) hv, _, rfl, ?_⟩
    refine ⟨_, rfl, sa, rfl, ⟨_, s12.seq hsa⟩, fun q hq => ?_⟩
    refine itl_walk (K := K) (a := sa) (xs := sv) (fun i H3 => AccT H2 q (plain.take i) H3) (AccT.start hq) (fun i H3 _ a3 => (s12.trans a3.same).seq hsa) ?_ ?_
    ·
      rintro i y H3 hy a3
      obtain ⟨ya, ns, rfl, hns, hya⟩ := hsv.of hy
      have il : i < shn.length := (List.getElem?_eq_some_iff.mp hns).1
      obtain ⟨pe, hpl⟩ : ∃ pe, plain[i]? = some pe := ⟨_, List.getElem?_eq_getElem (by rw [← mean.1]; exact il)⟩
      obtain ⟨n63, asc, mm⟩ := mean.2 i ns _ hns hpl
      refine ⟨rfl, ?_⟩
      refine ⟨_, rfl, ya, ns, rfl, hya.stay (s12.trans a3.same), by omega, fun p4 c hp4 hc => ?_⟩
      have u1 := same_new hp4 (SetO w p4 (fun j => decide (j ∈ ns)) c)
      refine ⟨p4, _, c, rfl, upd_same, by omega, fun ns2 p5 asc2 mem2 _ hp5 => ?_⟩
      have u2 := same_new hp5 (.lst (ns2.map V.int))
      have e2 : ns2 = pe := asc_ext asc2 asc fun z => by
        rw [mem2 z, mm z]
        exact decide_eq_true_iff
      subst e2
      refine ⟨p5, _, rfl, SqL.of upd_same, fun p6 hp6 => ?_⟩
      have u3 := same_new hp6 (.tup (ns2.map V.int))
      have b3 := a3.step (u1.trans (u2.trans u3))
      obtain ⟨acc, e, el, b4⟩ := b3.push (r := ns2) ⟨p6, rfl, upd_same⟩
      refine ⟨acc, e, lt_small (by rw [el, List.length_take]; omega), ?_⟩
      rw [take_more hpl]
      exact b4
    ·
      rintro H3 a3
      obtain ⟨acc, e, hacc⟩ := a3.ex
      rw [hsv.len, mean.1, List.take_of_length_le (Nat.le_refl _)] at hacc
      have s3 := s12.trans a3.same
      exact ⟨D, la, q, rows, ls, acc, plain, rfl, hDD.stay a3.same, s3.seqT hla, SqL.of e, hacc, ok, l4, h4, fun hg H4 s4 => kn hg H4 (s3.trans s4), fun hg p4 H4 xs s4 => kg hg p4 H4 xs (s3.trans s4)⟩
  · refine ⟨_, (pss_cons (ps_expr (pcE gcheck_task hr (takes_of rfl rfl rfl rfl) (pa_cons (pv 0) pa_nil)))
    (pss_cons (ps_asg (pv 0) (pg_tup rfl (pgs_cons (pg_name (i := 3) sc.nd rfl (Or.inl rfl)) (pgs_cons (pg_name (i := 3) sc.nd rfl (Or.inl rfl)) (pgs_cons (pg_name (i := 4) sc.nd rfl (Or.inl rfl)) (pgs_cons (pg_name (i := 3) sc.nd rfl (Or.inl rfl)) (pgs_cons (pg_name (i := 5) sc.nd rfl (Or.inl rfl)) pgs_nil)))))))
    (pss_cons (ps_if (pt_not (pt_val (pc gis_number hr (pa_cons (pv 1) (pa_cons pe_int (pa_cons (pe_op op_sub (pe_callB call_len_seq (by rfl) B.len (by decide +kernel) (pa_cons (pv 5) pa_nil)) pe_int) pa_nil))))))
      (pss_one (ps_ret pe_non))
      pss_nil)
    (pss_one (ps_ret (pc ggrown hr (pa_cons (pe_ix ix_list (pc glooked_up hr (pa_cons (pv 5) pa_nil)) (pv 1) (fun _ _ => rfl)) (pa_cons (pv 4) (pa_cons (pe_lc (own := [("names", 6)]) (g := gName 6) (tt := tYes) rfl sc.nd (pi_tup (pv 2)) (blkOk_by (N := ["task", "number", "sets", "_", "labels", "black", "names"]) (sc := defScope smade_greatest) (by decide +kernel)) (fun _ _ _ _ _ => pg_name (i := 6) sc.nd rfl (Or.inl rfl)) (fun _ _ _ _ _ => pts_nil) (fun _ _ _ _ _ => (pe_callTy (show CallR _ _ (rTupOfL K) from call_tupL) (by rfl) B.tuple (by decide +kernel) (pa_cons (pe_callB (show CallR _ _ (rSortedSet w) from cr_sortedSet rfl) (by rfl) B.sorted (by decide +kernel) (pa_cons (pe_callTy (show CallR _ _ (rSetOfI K w) from cr_setOfI rfl) (by rfl) B.set (by decide +kernel) (pa_cons (pv 6) pa_nil)) pa_nil)) pa_nil)))) pa_nil))))))))), ?_⟩
    refine ⟨_, rfl, M, _, d, rfl, hd, hb, hw, fun _ H1 s1 => ?_, fun z => by rw [hT] at z; cases z⟩
    refine ⟨_, rfl, a, _, rfl, s1.seqT ha, rfl, _, _, rfl, _, _, rfl, _, _, rfl, _, _, rfl, _, _, rfl, rfl, ?_⟩
    refine ⟨_, rfl, _, rfl, ba, _, rfl, .inr (s1.seqT hba), _, _, rfl, rfl, (fun _ => False), .int n, .int n, 0, _, rfl, .int n, _, rfl, ?_⟩
    rw [hW.len, num_nat nW]
    refine iteF ?_
    refine ⟨_, rfl, ba, bxs, W, rfl, s1.seqT hba, hW.imp (fun v r h => h.stay s1.tups), W100, R2, fun p H2 ds hp0 s2 hp hD => ?_⟩
    have s12 := s1.trans s2
    obtain ⟨v, hv, D, rfl, hDD⟩ := hD.at hrow
    refine ⟨_, rfl, p, _, _, _, rfl, rfl, SqL.of hp, at_of (j := n) (by omega) hv, _, rfl, ?_⟩
    refine ⟨_, rfl, sa, rfl, ⟨_, s12.seqT hsa⟩, fun q hq => ?_⟩
    refine itt_walk (K := K) (a := sa) (xs := sv) (fun i H3 => AccT H2 q (plain.take i) H3) (AccT.start hq) (fun i H3 _ a3 => (s12.trans a3.same).seqT hsa) ?_ ?_
    ·
      rintro i y H3 hy a3
      obtain ⟨ya, ns, rfl, hns, hya⟩ := hsv.of hy
      have il : i < shn.length := (List.getElem?_eq_some_iff.mp hns).1
      obtain ⟨pe, hpl⟩ : ∃ pe, plain[i]? = some pe := ⟨_, List.getElem?_eq_getElem (by rw [← mean.1]; exact il)⟩
      obtain ⟨n63, asc, mm⟩ := mean.2 i ns _ hns hpl
      refine ⟨rfl, ?_⟩
      refine ⟨_, rfl, ya, ns, rfl, hya.stay (s12.trans a3.same), by omega, fun p4 c hp4 hc => ?_⟩
      have u1 := same_new hp4 (SetO w p4 (fun j => decide (j ∈ ns)) c)
      refine ⟨p4, _, c, rfl, upd_same, by omega, fun ns2 p5 asc2 mem2 _ hp5 => ?_⟩
      have u2 := same_new hp5 (.lst (ns2.map V.int))
      have e2 : ns2 = pe := asc_ext asc2 asc fun z => by
        rw [mem2 z, mm z]
        exact decide_eq_true_iff
      subst e2
      refine ⟨p5, _, rfl, SqL.of upd_same, fun p6 hp6 => ?_⟩
      have u3 := same_new hp6 (.tup (ns2.map V.int))
      have b3 := a3.step (u1.trans (u2.trans u3))
      obtain ⟨acc, e, el, b4⟩ := b3.push (r := ns2) ⟨p6, rfl, upd_same⟩
      refine ⟨acc, e, lt_small (by rw [el, List.length_take]; omega), ?_⟩
      rw [take_more hpl]
      exact b4
    ·
      rintro H3 a3
      obtain ⟨acc, e, hacc⟩ := a3.ex
      rw [hsv.len, mean.1, List.take_of_length_le (Nat.le_refl _)] at hacc
      have s3 := s12.trans a3.same
      exact ⟨D, la, q, rows, ls, acc, plain, rfl, hDD.stay a3.same, s3.seqT hla, SqL.of e, hacc, ok, l4, h4, fun hg H4 s4 => kn hg H4 (s3.trans s4), fun hg p4 H4 xs s4 => kg hg p4 H4 xs (s3.trans s4)⟩
end
section
variable {P : Program} {w : World} {K : PySem.W.Frag} {mg : Str → Option Value} {base : Heap}
/-- x not in t -/
def rNotInTD (K : PySem.W.Frag) : R2 := fun x y H Q => ∃ d ds, Dp K H x d ∧ Dp K H y (.tuple ds) ∧ SeqAt.shaped d = true ∧ SeqAt.shaped (.list ds) = true ∧ Q (.bl (!ds.any fun z => PyData.eqv z d)) H
theorem op_notInTD {X : Cx} (hu : X.A.units + 65 < cLine) : OpR X (compareOp .NotIn) (rNotInTD X.K) := by
  intro pins s σ H x y v u Q J rx ry want
  obtain ⟨d, ds, hd, he, sd, se, q⟩ := want
  obtain ⟨as, r1⟩ := Dp.reads J d x v hd rx
  obtain ⟨bs, r2⟩ := Dp.reads J (.tuple ds) y u he ry
  exact SeqAt.notIn_tuple_reads r2 r1 (SeqAt.canLay_of_shaped se) (SeqAt.canLay_of_shaped sd) (room_in_shaped sd hu) ⟨.bl _, H, J, rfl, q⟩
theorem RT.dp {H : Hp} {v : V} {r : List Int} (h : RT H v r) : Dp K H v (tupI r) := by
  obtain ⟨t, rfl, e⟩ := h
  exact dp_row (SqT.of e)
theorem RowsT.dp {H : Hp} {v : V} {rows : List (List Int)} (h : RowsT K H v rows) : Dp K H v (.tuple (rows.map tupI)) :=
  Dn.dp _ (PyData.hasDict_of_canLay _ (by simp only [PyData.canLay0]; exact lay_t rows)) (Dt.dn (M := fun _ => False) h.dt)
theorem any_rows (rs : List (List Int)) (r : List Int) : ((rs.map tupI).any fun z => PyData.eqv z (tupI r)) = decide (r ∈ rs) := any_i rs r
def spLGood (K : PySem.W.Frag) : Sp := fun vs H Q _ => ∃ (ra : V) (sa : Addr) (rows : List (List Int)) (sv : List V) (nss : List (List Int)), vs = [ra, .ref sa] ∧ RowsT K H ra rows ∧ SqT K H sa sv ∧ SLs (SqT K H) sv nss ∧ (∀ m, (cart (nss.take m)).length ≤ 2000) ∧ nss.length ≤ 100 ∧
  ∀ H', Same H H' → Q (.bl (G rows nss)) H'
set_option maxHeartbeats 1000000 in
theorem ok_lgood {f : Addr} {fd : FuncData} (B : Blt mg) (g_law_choices : Has P w K mg base CX0 1 "_law_choices" ["lists"] (spChoices K)) (F : Fun K "_law_is_good" "_law_is_good" s_law_is_good f fd) : FnOk P w K mg base CX0 2 f fd ["rows", "sets"] (spLGood K) := by
  have sc : FnScope ["rows", "sets", "row", "one"] ["rows", "sets"] (defScope s_law_is_good) := ⟨rfl, rfl, rfl, by decide +kernel, rfl, by decide +kernel, by decide +kernel⟩
  refine F.ok sc (fun vs H Q E h => ?_) (fun cdv A outer s H vs Q E hr h => ?_)
  · obtain ⟨_, _, _, _, _, rfl, _⟩ := h
    rfl
  obtain ⟨ra, sa, rows, sv, nss, rfl, hrows, hsa, hsv, hM, h4, k⟩ := h
  refine ⟨_, (pss_cons (ps_for PassesOwn.never rfl (pi_list (pc g_law_choices hr (pa_cons (pe_lc (own := [("one", 3)]) (g := gName 3) (tt := tYes) rfl sc.nd (pi_tup (pv 1)) (blkOk_by (N := ["rows", "sets", "row", "one"]) (sc := defScope s_law_is_good) (by decide +kernel)) (fun _ _ _ _ _ => pg_name (i := 3) sc.nd rfl (Or.inl rfl)) (fun _ _ _ _ _ => pts_nil) (fun _ _ _ _ _ => (pe_callTy (show CallR _ _ (rListOfT K) from call_listT) (by rfl) B.list (by decide +kernel) (pa_cons (pv 3) pa_nil)))) pa_nil))) (pg_name (i := 2) sc.nd rfl (Or.inl rfl))
      (pss_one (ps_if (pt_cmpR (op_notInTD hr.units2) (pv 2) (pv 0) (by with_unfolding_all rfl))
        (pss_one (ps_ret pe_bl))
        pss_nil)))
    (pss_one (ps_ret pe_bl))), ?_⟩
  refine ⟨_, rfl, sa, rfl, ⟨_, hsa⟩, fun p hp => ?_⟩
  refine itt_walk (K := K) (a := sa) (xs := sv) (fun i H1 => Same H H1 ∧ ∃ acc, H1 p = some (.lst acc) ∧ SLs (fun a xs => a ≠ p ∧ H1 a = some (.lst xs)) acc (nss.take i)) ⟨same_new hp _, [], upd_same, .nil⟩ (fun i H1 _ z => z.1.seqT hsa) ?_ ?_
  · rintro i y H1 hy ⟨s1, acc, hacc, hA⟩
    obtain ⟨ya, ns, rfl, hns, hya⟩ := hsv.of hy
    have il : i < nss.length := (List.getElem?_eq_some_iff.mp hns).1
    refine ⟨rfl, ?_⟩
    refine ⟨_, rfl, ya, _, rfl, s1.seqT hya, fun q hq => ?_⟩
    have u1 := same_new hq (.lst (ns.map V.int))
    have qp : q ≠ p := (ne_of_none hacc hq).symm
    have e1 := u1 _ _ hacc
    refine ⟨acc, e1, lt_small (by rw [hA.len, List.length_take]; omega), same_own (s1.trans u1) hp _, _, upd_same, ?_⟩
    rw [take_more hns]
    refine SLs.app (hA.imp fun a xs z => ⟨z.1, (upd_ne z.1).trans (u1 _ _ z.2)⟩) (.cons ⟨qp, (upd_ne qp).trans upd_same⟩ .nil)
  · rintro H1 ⟨s1, acc, hacc, hA⟩
    rw [hsv.len, List.take_of_length_le (Nat.le_refl _)] at hA
    refine ⟨p, acc, nss, rfl, SqL.of hacc, hA.imp fun a xs z => SqL.of z.2, hM, h4, fun c H2 xs hc s2 hx hR => ?_⟩
    have s12 := s1.trans s2
    have cl : (cart nss).length ≤ 2000 := by
      have := hM nss.length
      rwa [List.take_of_length_le (Nat.le_refl _)] at this
    refine ⟨c, rfl, ⟨_, SqL.of hx⟩, for_list (K := K) (a := c) (xs := xs) (fun i σ H3 => H2 = H3 ∧ ∃ rv : Option V, σ = [some ra, some (.ref sa), rv, none] ∧ ∀ r ∈ (cart nss).take i, r ∈ rows) ⟨rfl, none, rfl, fun r h => by rw [List.take_zero] at h; cases h⟩ (fun i σ H3 _ z => by rw [← z.1]; exact SqL.of hx) ?_ ?_⟩
    · rintro i y σ H3 hy ⟨rfl, rv, rfl, good⟩
      obtain ⟨r, hr1, hr2⟩ := hR.of hy
      refine ⟨_, rfl, _, rfl, tupI r, _, hr2.dp, (hrows.stay s12.tups).dp, shaped_i r, shaped_l rows, _, rfl, ?_⟩
      rw [any_rows]
      cases hin : decide (r ∈ rows) with
      | true =>
        refine iteF ?_
        refine ⟨rfl, _, rfl, fun q hq => ?_⟩
        rw [take_more hr1] at hq
        rcases List.mem_append.mp hq with hq | hq
        · exact good q hq
        · rw [List.mem_singleton.mp hq]
          exact of_decide_eq_true hin
      | false =>
        refine iteT ?_
        have q := k H2 s12
        have e : G rows nss = false := by
          unfold G
          rw [List.all_eq_false]
          exact ⟨r, List.mem_of_getElem? hr1, by rw [hin]; exact Bool.false_ne_true⟩
        rw [e] at q
        exact q
    · rintro σ H3 ⟨rfl, rv, rfl, good⟩
      rw [List.take_of_length_le (by rw [hR.len]; exact Nat.le_refl _)] at good
      have q := k H2 s12
      have e : G rows nss = true := by
        unfold G
        rw [List.all_eq_true]
        exact fun r hr => decide_eq_true (good r hr)
      rw [e] at q
      exact q
def spLGreat (K : PySem.W.Frag) : Sp := fun vs H Q _ => ∃ (ra : V) (la sa : Addr) (rows : List (List Int)) (ls : List Int) (sv : List V) (x : List (List Int)), vs = [ra, .ref la, .ref sa] ∧ RowsT K H ra rows ∧ SqT K H la (ls.map V.int) ∧ SqT K H sa sv ∧ RTs H sv x ∧ OkS ls x ∧
  (∀ m ∈ ls, 0 ≤ m ∧ m ≤ 4) ∧ ls.length ≤ 4 ∧ (∀ i, i < ls.length → ∀ l : Nat, (l : Int) < ls.getD i 0 → Done rows x i l) ∧ ∀ H', Same H H' → Q (.bl true) H'
set_option maxHeartbeats 1000000 in
theorem ok_lgreat {f : Addr} {fd : FuncData} (B : Blt mg) (g_law_is_good : Has P w K mg base CX0 2 "_law_is_good" ["rows", "sets"] (spLGood K)) (F : Fun K "_law_is_greatest" "_law_is_greatest" s_law_is_greatest f fd) : FnOk P w K mg base CX0 3 f fd ["rows", "labels", "sets"] (spLGreat K) := by
  have sc : FnScope ["rows", "labels", "sets", "at", "label"] ["rows", "labels", "sets"] (defScope s_law_is_greatest) := ⟨rfl, rfl, rfl, by decide +kernel, rfl, by decide +kernel, by decide +kernel⟩
  refine F.ok sc (fun vs H Q E h => ?_) (fun cdv A outer s H vs Q E hr h => ?_)
  · obtain ⟨_, _, _, _, _, _, _, rfl, _⟩ := h
    rfl
  obtain ⟨ra, la, sa, rows, ls, sv, x, rfl, hrows, hla, hsa, hx, ok, l4, h4, dn, k⟩ := h
  refine ⟨_, (pss_cons (ps_for PassesOwn.never rfl (pi_range1 (by rfl) B.range (pa_cons (pe_callB call_len_seq (by rfl) B.len (by decide +kernel) (pa_cons (pv 1) pa_nil)) pa_nil)) (pg_name (i := 3) sc.nd rfl (Or.inl rfl))
      (pss_one (ps_for PassesOwn.never rfl (pi_range1 (by rfl) B.range (pa_cons (pe_ix ix_tup (pv 1) (pv 3) (fun _ _ => rfl)) pa_nil)) (pg_name (i := 4) sc.nd rfl (Or.inl rfl))
        (pss_one (ps_if (PW.pt (pw_and (pt_cmpR op_notIn_seq (pv 4) (pe_ix ix_tup (pv 2) (pv 3) (fun _ _ => rfl)) (by with_unfolding_all rfl)) (pw_and1 (pt_val (pc g_law_is_good hr (pa_cons (pv 0) (pa_cons (pe_op op_plus (pe_op op_plus (pe_slice sl_cut (pv 2) po_none (po_some (pv 3))) (pe_tup (pa_cons (pe_tup (pa_cons (pv 4) pa_nil)) pa_nil))) (pe_slice sl_cut (pv 2) (po_some (pe_op op_add (pv 3) pe_int)) po_none)) pa_nil)))))))
          (pss_one (ps_ret pe_bl))
          pss_nil)))))
    (pss_one (ps_ret pe_bl))), ?_⟩
  have xlen : x.length = ls.length := ok.1
  have slen : sv.length = x.length := hx.len
  refine ⟨_, rfl, la, _, rfl, .inr hla, (((ls.map V.int).length : Nat) : Int), rfl, by omega, by rw [List.length_map]; omega, for_range (lo := 0) (n := (((ls.map V.int).length : Nat) : Int).toNat) (fun i σ H' => ∃ (av bv : Option V), σ = [some ra, some (.ref la), some (.ref sa), av, bv] ∧ Same H H') ⟨none, none, rfl, Same.refl _⟩ ?_ ?_⟩
  · rintro i σ H2 hi ⟨av, bv, rfl, sm⟩
    have il : i < ls.length := by
      rw [List.length_map] at hi
      omega
    have hm : ls[i]? = some ls[i] := List.getElem?_eq_getElem il
    have m4 := l4 _ (List.getElem_mem il)
    have gd : ls.getD i 0 = ls[i] := getD_at hm
    have hxi : x[i]? = some x[i] := List.getElem?_eq_getElem (by omega)
    have gx : x.getD i [] = x[i] := getD_at hxi
    refine ⟨_, rfl, _, rfl, la, _, _, _, rfl, rfl, sm.seqT hla, at_of (j := i) (by omega) (show (ls.map V.int)[i]? = some (V.int ls[i]) by rw [List.getElem?_map, hm]; rfl), ls[i], rfl, by omega, by omega, for_range (lo := 0) (n := (ls[i] : Int).toNat) (fun j σ H3 => ∃ (bv : Option V), σ = [some ra, some (.ref la), some (.ref sa), some (.int (0 + (i : Int))), bv] ∧ Same H H3) ⟨bv, rfl, sm⟩ ?_ ?_⟩
    · rintro j σ H3 hj ⟨bv, rfl, sm⟩
      obtain ⟨v, hv, ta, rfl, hta⟩ := (hx.stay sm.tups).at hxi
      have cut_a : cutV sv none (some (0 + (i : Int))) = sv.take i := by rw [show (0 + (i : Int)) = ((i : Nat) : Int) by omega, cut_to]
      have cut_b : cutV sv (some (0 + (i : Int) + 1)) none = sv.drop (i + 1) := by rw [show (0 + (i : Int)) + 1 = ((i + 1 : Nat) : Int) by omega, cut_from]
      refine ⟨_, rfl, _, rfl, _, rfl, sa, _, _, _, rfl, rfl, sm.seqT hsa, at_of (j := i) (by omega) hv, ta, _, rfl, .inr (SqT.of hta), rfl, flat_ints _, ?_⟩
      rw [inV_int]
      refine ⟨!decide ((j : Int) ∈ x[i]), by rw [Int.zero_add]; rfl, ?_⟩
      cases hin : decide ((j : Int) ∈ x[i]) with
      | true =>
        refine iteF ?_
        exact ⟨_, rfl, sm⟩
      | false =>
        refine iteT ?_
        refine ⟨_, rfl, _, rfl, _, rfl, _, rfl, sa, sv, rfl, sm.seqT hsa, fun p1 H4 s4 hp1 => ?_⟩
        rw [cut_a] at hp1
        refine ⟨_, rfl, (by show 1 ≤ sizeLine; decide), fun t1 ht1 => ⟨(by show 1 ≤ sizeLine; decide), fun l1 hl1 => ?_⟩⟩
        have u2 := same_new ht1 (.tup [V.int (0 + (j : Int))])
        have u3 := same_new hl1 (.tup [V.ref t1])
        refine ⟨p1, l1, _, _, rfl, rfl, (u2.trans u3).seqT hp1, SqT.of upd_same, le_sz (by rw [List.length_take]; show _ + 1 ≤ _; omega), fun p2 H5 s5 hp2 => ?_⟩
        have s35 := s4.trans ((u2.trans u3).trans s5)
        refine ⟨_, rfl, _, rfl, _, _, rfl, rfl, _, rfl, sa, sv, rfl, (sm.trans s35).seqT hsa, fun p3 H6 s6 hp3 => ?_⟩
        rw [cut_b] at hp3
        refine ⟨p2, p3, _, _, rfl, rfl, s6.seqT hp2, hp3, le_sz (by rw [List.length_append, List.length_take, List.length_drop]; show _ + 1 + _ ≤ _; omega), fun p4 H7 s7 hp4 => ?_⟩
        have s37 := s35.trans (s6.trans s7)
        have t1at := (s5.trans (s6.trans s7)) _ _ (u3 _ _ (upd_same (H := _) (a := t1) (o := .tup [V.int (0 + (j : Int))])))
        rw [set_cut (show i < sv.length by omega)] at hp4
        have q := RTs.sls (K := K) (RTs.set (show RT H7 (.ref t1) [(j : Int)] from ⟨t1, rfl, t1at.trans (by rw [Int.zero_add]; rfl)⟩) i (hx.stay (sm.trans s37).tups))
        have okz := okS_set (l := j) ok hm (by omega)
        refine ⟨ra, p4, rows, _, x.set i [(j : Int)], rfl, hrows.stay (sm.trans s37).tups, hp4, q, same_few okz l4 h4, by rw [List.length_set]; omega, fun H8 s8 => ⟨_, rfl, ?_⟩⟩
        have g0 : G rows (x.set i [(j : Int)]) = false := by
          rcases dn i il j (by rw [gd]; omega) with z | z
          · rw [gx] at z
            exact absurd z (of_decide_eq_false hin)
          · exact z
        rw [g0]
        refine iteF ?_
        exact ⟨_, rfl, (sm.trans s37).trans s8⟩
    · rintro σ H3 ⟨bv, rfl, sm⟩
      exact ⟨_, _, rfl, sm⟩
  · rintro σ H2 ⟨av, bv, rfl, sm⟩
    exact k H2 sm
end
/-! ### the task that is drawn -/
def rgs (m : Int) : List Int := (List.range m.toNat).map fun i => ((i : Nat) : Int)
theorem rg_V (m : Int) : rgV 0 m = (rgs m).map V.int := by
  unfold rgV rgs
  rw [List.map_map, Int.sub_zero]
  refine List.map_congr_left fun i _ => ?_
  show V.int (0 + (i : Int)) = V.int (i : Int)
  rw [Int.zero_add]
theorem mem_rgs {m z : Int} : z ∈ rgs m ↔ 0 ≤ z ∧ z < m := by
  unfold rgs
  rw [List.mem_map]
  constructor
  · rintro ⟨i, hi, rfl⟩
    have := List.mem_range.mp hi
    omega
  · rintro ⟨a, b⟩
    exact ⟨z.toNat, List.mem_range.mpr (by omega), by omega⟩
theorem rgs_len (m : Int) : (rgs m).length = m.toNat := by unfold rgs; rw [List.length_map, List.length_range]
theorem rgs_asc (m : Int) : (rgs m).Pairwise (· < ·) := by
  unfold rgs
  rw [List.pairwise_map]
  exact List.pairwise_lt_range.imp fun {a b} h => by omega
theorem lt_app : ∀ {r q : List Int} (a b : List Int), r.length = q.length → r < q → r ++ a < q ++ b
  | [], [], _, _, _, h => absurd h (List.lt_irrefl _)
  | [], _ :: _, _, _, l, _ => by simp at l
  | _ :: _, [], _, _, l, _ => by simp at l
  | x :: r, y :: q, a, b, l, h => by
    rw [List.cons_append, List.cons_append]
    rw [List.cons_lt_cons_iff] at h ⊢
    rcases h with h | ⟨e, h⟩
    · exact .inl h
    · exact .inr ⟨e, lt_app a b (by simpa using l) h⟩
theorem lt_last : ∀ (r : List Int) {a b : Int}, a < b → r ++ [a] < r ++ [b]
  | [], a, b, h => by
    show [a] < [b]
    rw [List.cons_lt_cons_iff]
    exact .inl h
  | x :: r, a, b, h => by
    rw [List.cons_append, List.cons_append, List.cons_lt_cons_iff]
    exact .inr ⟨rfl, lt_last r h⟩
theorem cart_asc {x : List (List Int)} (h : ∀ s ∈ x, s.Pairwise (· < ·)) : ∀ n, n ≤ x.length → (cart (x.take n)).Pairwise (· < ·)
  | 0, _ => by
    rw [List.take_zero]
    exact List.pairwise_singleton _ _
  | n + 1, hn => by
    have e : x[n]? = some x[n] := List.getElem?_eq_getElem (by omega)
    rw [cart_take e]
    unfold ext1
    rw [List.pairwise_flatMap]
    refine ⟨fun r _ => ?_, ?_⟩
    · rw [List.pairwise_map]
      exact (h _ (List.getElem_mem _)).imp fun {a b} l => lt_last r l
    · have ih := cart_asc h n (by omega)
      refine List.Pairwise.imp_of_mem ?_ ih
      intro r q hr hq l y hy z hz
      obtain ⟨a, _, rfl⟩ := List.mem_map.mp hy
      obtain ⟨b, _, rfl⟩ := List.mem_map.mp hz
      exact lt_app [a] [b] ((mem_cart.mp hr).1.trans (mem_cart.mp hq).1.symm) l
theorem cart_row {ls : List Int} : ∀ n, n ≤ ls.length → ∀ r ∈ cart ((ls.map rgs).take n), isRow (ls.take n) (tupI r) = true
  | 0, _, r, hr => by
    rw [List.take_zero] at hr ⊢
    have : r = [] := List.mem_singleton.mp hr
    rw [this]
    exact row_nil
  | n + 1, hn, r, hr => by
    have e0 : ls[n]? = some ls[n] := List.getElem?_eq_getElem (by omega)
    have e : (ls.map rgs)[n]? = some (rgs ls[n]) := by rw [List.getElem?_map, e0]; rfl
    rw [cart_take e, mem_ext1] at hr
    obtain ⟨q, hq, z, hz, rfl⟩ := hr
    have ih := cart_row n (by omega) q hq
    have zz := mem_rgs.mp hz
    rw [take_more e0, row_snoc (row_len ih), ih, Bool.true_and]
    show (decide ((0 : Int) ≤ z) && decide (z ≤ ls[n] - 1)) = true
    rw [decide_eq_true zz.1, decide_eq_true (by omega)]
    rfl
/-- rows that are drawn out of all rows -/
def SubR (ls : List Int) (rows : List (List Int)) : Prop := rows.Sublist (cart (ls.map rgs))
theorem sub_row {ls : List Int} {rows : List (List Int)} (s : SubR ls rows) : ∀ r ∈ rows, isRow ls (tupI r) = true := fun r hr => by
  have := cart_row (ls := ls) ls.length (Nat.le_refl _) r (by rw [List.take_of_length_le (by rw [List.length_map]; exact Nat.le_refl _)]; exact s.subset hr)
  rwa [List.take_of_length_le (Nat.le_refl _)] at this
theorem sub_asc {ls : List Int} {rows : List (List Int)} (s : SubR ls rows) : rows.Pairwise (· < ·) := by
  have := cart_asc (x := ls.map rgs) (fun s hs => by
    obtain ⟨m, _, rfl⟩ := List.mem_map.mp hs
    exact rgs_asc m) (ls.map rgs).length (Nat.le_refl _)
  rw [List.take_of_length_le (Nat.le_refl _)] at this
  exact this.sublist s
theorem rgs_four {ls : List Int} (l4 : ∀ m ∈ ls, 0 ≤ m ∧ m ≤ 4) : ∀ s ∈ ls.map rgs, s.length ≤ 4 := fun s hs => by
  obtain ⟨m, hm, rfl⟩ := List.mem_map.mp hs
  have := l4 m hm
  rw [rgs_len]
  omega
theorem sub_len {ls : List Int} {rows : List (List Int)} (l4 : ∀ m ∈ ls, 0 ≤ m ∧ m ≤ 4) (h4 : ls.length ≤ 4) (s : SubR ls rows) : rows.length ≤ 256 := by
  have a := s.length_le
  have c := cart_len (rgs_four l4) (ls.map rgs).length (Nat.le_refl _)
  rw [List.take_of_length_le (Nat.le_refl _), List.length_map] at c
  have : 4 ^ ls.length ≤ 4 ^ 4 := Nat.pow_le_pow_right (by decide) h4
  omega
theorem rows_are {ls : List Int} {rows : List (List Int)} (ok : ∀ r ∈ rows, isRow ls (tupI r) = true) (pw : rows.Pairwise (· < ·)) : areRows ls (.tuple (rows.map tupI)) = true := by
  rw [rows_all, List.all_eq_true]
  intro i hi
  have il : i < rows.length := by simpa using List.mem_range.mp hi
  have gi : (rows.map tupI).getD i .none = tupI rows[i] := getD_of (by simp [il])
  unfold rowAt
  rw [gi, ok _ (List.getElem_mem il), Bool.true_and]
  by_cases h0 : i = 0
  · rw [decide_eq_true h0]
    rfl
  · have il2 : i - 1 < rows.length := by omega
    have g1 : (rows.map tupI).getD (i - 1) .none = tupI rows[i - 1] := getD_of (by simp [il2])
    rw [g1, intsD_t, intsD_t, decide_eq_true (List.pairwise_iff_getElem.mp pw (i - 1) i il2 il (by omega)), Bool.or_true]
theorem prod_four : ∀ (ns : List Int), (∀ m ∈ ns, 1 ≤ m ∧ m ≤ 4) → ∀ p : Int, 0 ≤ p → 0 ≤ (ns.map PyData.int).foldl (fun p m => p * numD m) p ∧ (ns.map PyData.int).foldl (fun p m => p * numD m) p ≤ p * 4 ^ ns.length
  | [], _, p, h => ⟨h, by simp⟩
  | m :: ns, hm, p, h => by
    have m4 := hm m List.mem_cons_self
    have p1 : 0 ≤ p * m := Int.mul_nonneg h (by omega)
    obtain ⟨a, b⟩ := prod_four ns (fun z hz => hm z (List.mem_cons_of_mem _ hz)) (p * m) p1
    refine ⟨a, Int.le_trans b ?_⟩
    rw [List.length_cons, Int.pow_succ, Int.mul_comm (4 ^ ns.length) 4, ← Int.mul_assoc]
    exact Int.mul_le_mul_of_nonneg_right (Int.mul_le_mul_of_nonneg_left m4.2 h) (Int.pow_nonneg (by decide))
theorem lab_four {D : Int} {ls : List Int} (D2 : 2 ≤ D) (D4 : D ≤ 4) (l1 : ((ls.length : Nat) : Int) = D) (l4 : ∀ m ∈ ls, 1 ≤ m ∧ m ≤ 4) : areLabels (.int D) (tupI ls) = true := by
  have hn : isNum (.int D) 2 4 = true := by
    show (decide (2 ≤ D) && decide (D ≤ 4)) = true
    rw [decide_eq_true D2, decide_eq_true D4]
    rfl
  have l3 : prodD (ls.map PyData.int) ≤ 4000 := by
    have := (prod_four ls l4 1 (by decide)).2
    have h : (1 : Int) * 4 ^ ls.length ≤ 4000 := by
      have : ls.length ≤ 4 := by omega
      generalize ls.length = n at this
      match n, this with
      | 0, _ => decide
      | 1, _ => decide
      | 2, _ => decide
      | 3, _ => decide
      | 4, _ => decide
      | n + 5, h => omega
    exact Int.le_trans this h
  have e := labels_tup (ms := ls.map PyData.int) hn
  show areLabels (.int D) (.tuple (ls.map PyData.int)) = true
  rw [e, decide_eq_true (by rw [List.length_map]; exact l1), decide_eq_true l3, Bool.true_and, Bool.and_true, List.all_eq_true]
  intro x hx
  obtain ⟨m, hm, rfl⟩ := List.mem_map.mp hx
  obtain ⟨a, b⟩ := l4 m hm
  show (decide (1 ≤ m) && decide (m ≤ 60)) = true
  rw [decide_eq_true a, decide_eq_true (by omega)]
  rfl
theorem side_are {ls : List Int} {W : List (List (List Int))} (w1 : 1 ≤ W.length) (w4 : W.length ≤ 4) (ok : ∀ rows ∈ W, SubR ls rows) : areInputs ls (sideD W) = true := by
  show (isNum (.int ((W.map fun rows => PyData.tuple (rows.map tupI)).length : Nat)) 1 4 && (W.map fun rows => PyData.tuple (rows.map tupI)).all (areRows ls)) = true
  rw [List.length_map]
  have hn : isNum (.int (W.length : Nat)) 1 4 = true := by
    show (decide ((1 : Int) ≤ (W.length : Nat)) && decide (((W.length : Nat) : Int) ≤ 4)) = true
    rw [decide_eq_true (by omega), decide_eq_true (by omega)]
    rfl
  rw [hn, Bool.true_and, List.all_eq_true]
  intro x hx
  obtain ⟨rows, hr, rfl⟩ := List.mem_map.mp hx
  exact rows_are (sub_row (ok rows hr)) (sub_asc (ok rows hr))
/-- the task that the law draws -/
structure Drawn (D : Int) (ls : List Int) (W B : List (List (List Int))) : Prop where
  D2 : 2 ≤ D
  D4 : D ≤ 4
  len : ((ls.length : Nat) : Int) = D
  lab : ∀ m ∈ ls, 1 ≤ m ∧ m ≤ 4
  w1 : 1 ≤ W.length
  w4 : W.length ≤ 4
  wok : ∀ rows ∈ W, SubR ls rows
  b1 : 1 ≤ B.length
  b4 : B.length ≤ 4
  bok : ∀ rows ∈ B, SubR ls rows
theorem Drawn.l4 {D : Int} {ls : List Int} {W B : List (List (List Int))} (t : Drawn D ls W B) : ∀ m ∈ ls, 0 ≤ m ∧ m ≤ 4 := fun m hm => ⟨by have := t.lab m hm; omega, (t.lab m hm).2⟩
theorem Drawn.is {D : Int} {ls : List Int} {W B : List (List (List Int))} (t : Drawn D ls W B) : isTask (taskD D ls W B) = true := by
  show (isWord (.str "task") && (areLabels (.int D) (tupI ls) && (areInputs (intsD (tupI ls)) (sideD W) && areInputs (intsD (tupI ls)) (sideD B)))) = true
  rw [intsD_t, lab_four t.D2 t.D4 t.len t.lab, side_are t.w1 t.w4 t.wok, side_are t.b1 t.b4 t.bok]
  rfl
theorem task_word (D : Int) (ls : List Int) (W B : List (List (List Int))) : WordOk (taskD D ls W B) := fun w r e _ => by
  cases e
  decide +kernel
theorem sized_row {ls r : List Int} (h4 : ls.length ≤ 4) (l4 : ∀ m ∈ ls, 0 ≤ m ∧ m ≤ 4) (p : Pick r (ls.map rgs)) : Sized 4 1 (tupI r) := by
  have rl : r.length ≤ 4 := by
    have := p.1
    rw [List.length_map] at this
    omega
  refine (sized_tup (m := 0) (h := 0) (ds := r.map PyData.int) fun d hd => ?_).more (by rw [List.length_map]; omega) (Nat.le_refl _)
  obtain ⟨z, hz, rfl⟩ := List.mem_map.mp hd
  obtain ⟨i, hi⟩ := List.getElem?_of_mem hz
  have il : i < ls.length := by
    have a := (List.getElem?_eq_some_iff.mp hi).1
    have b := p.1
    rw [List.length_map] at b
    omega
  have hm : ls[i]? = some ls[i] := List.getElem?_eq_getElem il
  have := mem_rgs.mp (p.2 i z (rgs ls[i]) hi (by rw [List.getElem?_map, hm]; rfl))
  have m4 := l4 _ (List.getElem_mem il)
  exact sized_int (Nat.lt_of_lt_of_le (show z.natAbs < 2000 by omega) (by decide))
theorem sized_rows {ls : List Int} {rows : List (List Int)} (h4 : ls.length ≤ 4) (l4 : ∀ m ∈ ls, 0 ≤ m ∧ m ≤ 4) (s : SubR ls rows) : Sized 1280 2 (.tuple (rows.map tupI)) := by
  have n := sub_len l4 h4 s
  refine (sized_tup (m := 4) (h := 1) (ds := rows.map tupI) fun d hd => ?_).more (by rw [List.length_map]; omega) (Nat.le_refl _)
  obtain ⟨r, hr, rfl⟩ := List.mem_map.mp hd
  exact sized_row h4 l4 (mem_cart.mp (s.subset hr))
theorem sized_side {ls : List Int} {W : List (List (List Int))} (h4 : ls.length ≤ 4) (l4 : ∀ m ∈ ls, 0 ≤ m ∧ m ≤ 4) (w4 : W.length ≤ 4) (ok : ∀ rows ∈ W, SubR ls rows) : Sized 5124 3 (sideD W) := by
  refine Sized.more (m' := 5124) (h' := 3) (sized_tup (m := 1280) (h := 2) (ds := W.map fun rows => .tuple (rows.map tupI)) fun d hd => ?_) (by rw [List.length_map]; omega) (Nat.le_refl _)
  obtain ⟨rows, hr, rfl⟩ := List.mem_map.mp hd
  exact sized_rows h4 l4 (ok rows hr)
theorem Drawn.sized {D : Int} {ls : List Int} {W B : List (List (List Int))} (t : Drawn D ls W B) : Sized 25625 4 (taskD D ls W B) := by
  have h4 : ls.length ≤ 4 := by have := t.len; have := t.D4; omega
  refine (sized_tup (m := 5124) (h := 3) (ds := [.str "task", .int D, tupI ls, sideD W, sideD B]) fun d hd => ?_).more (by show 5 * 5125 ≤ _; decide) (Nat.le_refl _)
  have D2 := t.D2
  have D4 := t.D4
  simp only [List.mem_cons, List.not_mem_nil, or_false] at hd
  rcases hd with rfl | rfl | rfl | rfl | rfl
  · exact (sized_str "task" (by decide) 4 (by decide)).more (by decide) (by decide)
  · exact (sized_int (Nat.lt_of_lt_of_le (show D.natAbs < 2000 by omega) (by decide))).more (by decide) (by decide)
  · refine ((sized_tup (m := 0) (h := 0) (ds := ls.map PyData.int) fun d hd => ?_).more (by rw [List.length_map]; omega) (Nat.le_refl _)).more (m' := 5124) (h' := 3) (m := 4) (by decide) (by decide)
    obtain ⟨z, hz, rfl⟩ := List.mem_map.mp hd
    have := t.lab z hz
    exact sized_int (Nat.lt_of_lt_of_le (show z.natAbs < 2000 by omega) (by decide))
  · exact sized_side h4 t.l4 t.w4 t.wok
  · exact sized_side h4 t.l4 t.b4 t.bok
section
variable {P : Program} {w : World} {K : PySem.W.Frag} {mg : Str → Option Value} {base : Heap}
/-- a list of rows that grows while the hand draws -/
structure AccJ (M : Addr → Prop) (H0 : Hp) (q : Addr) (rs : List (List Int)) (H : Hp) : Prop where
  free : H0 q = none
  go : Go M H0 H
  ex : ∃ acc, H q = some (.lst acc) ∧ RTs H acc rs
theorem go_own {M : Addr → Prop} {H0 H : Hp} {q : Addr} (g : Go M H0 H) (f : H0 q = none) {xs : List V} (e : H q = some (.lst xs)) (ys : List V) : Go M H0 (upd H q (.lst ys)) :=
  ⟨fun b o n h => by
    have ne : b ≠ q := fun z => by
      rw [z, f] at h
      cases h
    rw [upd_ne ne]
    exact g.out b o n h, g.tups.trans (tups_lst e)⟩
theorem AccJ.start {M : Addr → Prop} {H0 : Hp} {q : Addr} (h : H0 q = none) : AccJ M H0 q [] (upd H0 q (.lst [])) := ⟨h, (same_new h _).go, [], upd_same, .nil⟩
theorem AccJ.step {M : Addr → Prop} {H0 H H' : Hp} {q : Addr} {rs : List (List Int)} (nq : ¬ M q) (a : AccJ M H0 q rs H) (g : Go M H H') : AccJ M H0 q rs H' := by
  obtain ⟨acc, e, d⟩ := a.ex
  exact ⟨a.free, a.go.trans g, acc, g.out _ _ nq e, d.stay g.tups⟩
theorem AccJ.push {M : Addr → Prop} {H0 H : Hp} {q : Addr} {rs : List (List Int)} {v : V} {r : List Int} (a : AccJ M H0 q rs H) (hv : RT H v r) : ∃ acc, H q = some (.lst acc) ∧ acc.length = rs.length ∧ AccJ M H0 q (rs ++ [r]) (upd H q (.lst (acc ++ [v]))) := by
  obtain ⟨acc, e, d0⟩ := a.ex
  have t := tups_lst (ys := acc ++ [v]) e
  exact ⟨acc, e, d0.len, a.free, go_own a.go a.free e _, _, upd_same, (d0.stay t).app (.cons (hv.stay t) .nil)⟩
def spLRows (K : PySem.W.Frag) : Sp := fun vs H Q _ => ∃ (h d : Addr) (ds : List Int) (n : Nat) (la : Addr) (ls : List Int) (sh : Int), vs = [.ref h, .ref la, .int sh] ∧ Hand H h d ds n ∧ SqT K H la (ls.map V.int) ∧ (∀ m ∈ ls, 0 ≤ m ∧ m ≤ 4) ∧ ls.length ≤ 4 ∧
  ∀ (v : V) (H' : Hp) (n' : Nat) (rows : List (List Int)), Go (· = h) H H' → Hand H' h d ds n' → RowsT K H' v rows → SubR ls rows → Q v H'
set_option maxHeartbeats 1000000 in
theorem ok_lrows {f : Addr} {fd : FuncData} (B : Blt mg) (g_law_take : Has P w K mg base CX0 1 "_law_take" ["hand", "many"] (spTake K)) (g_law_choices : Has P w K mg base CX0 1 "_law_choices" ["lists"] (spChoices K)) (F : Fun K "_law_rows" "_law_rows" s_law_rows f fd) : FnOk P w K mg base CX0 2 f fd ["hand", "labels", "share"] (spLRows K) := by
  have sc : FnScope ["hand", "labels", "share", "rows", "many", "row"] ["hand", "labels", "share"] (defScope s_law_rows) := ⟨rfl, rfl, rfl, by decide +kernel, rfl, by decide +kernel, by decide +kernel⟩
  refine F.ok sc (fun vs H Q E h => ?_) (fun cdv A outer s H vs Q E hr h => ?_)
  · obtain ⟨_, _, _, _, _, _, _, rfl, _⟩ := h
    rfl
  obtain ⟨h, d, ds, n0, la, ls, sh, rfl, hh, hla, l4, h4, k⟩ := h
  refine ⟨_, (pss_cons (ps_set (i := 3) sc.nd rfl (Or.inl rfl) (pc g_law_choices hr (pa_cons (pe_lc (own := [("many", 4)]) (g := gName 4) (tt := tYes) rfl sc.nd (pi_tup (pv 1)) (blkOk_by (N := ["hand", "labels", "share", "rows", "many", "row"]) (sc := defScope s_law_rows) (by decide +kernel)) (fun _ _ _ _ _ => pg_name (i := 4) sc.nd rfl (Or.inl rfl)) (fun _ _ _ _ _ => pts_nil) (fun _ _ _ _ _ => (pe_listRg rfl (by rfl) B.list (prg_1 (by rfl) B.range (pv 4))))) pa_nil)))
    (pss_one (ps_ret (pe_callTy call_tuple_of (by rfl) B.tuple (by decide +kernel) (pa_cons (pe_lc (own := [("row", 5)]) (g := gName 5) rfl sc.nd (pi_list (pv 3)) (blkOk_by (N := ["hand", "labels", "share", "rows", "many", "row"]) (sc := defScope s_law_rows) (by decide +kernel)) (fun _ _ _ _ _ => pg_name (i := 5) sc.nd rfl (Or.inl rfl)) (fun _ _ _ _ _ => pts_one (pt_cmpR op_lt (pc g_law_take hr (pa_cons (pv 0) (pa_cons pe_int pa_nil))) (pv 2) (nomark _))) (fun _ _ _ _ _ => (pv 5))) pa_nil))))), ?_⟩
  refine ⟨_, rfl, la, rfl, ⟨_, hla⟩, fun p hp => ?_⟩
  refine itt_walk (K := K) (a := la) (xs := ls.map V.int) (fun i H1 => Same H H1 ∧ ∃ acc, H1 p = some (.lst acc) ∧ SLs (fun a xs => a ≠ p ∧ H1 a = some (.lst xs)) acc ((ls.map rgs).take i)) ⟨same_new hp _, [], upd_same, .nil⟩ (fun i H1 _ z => z.1.seqT hla) ?_ ?_
  · rintro i y H1 hy ⟨s1, acc, hacc, hA⟩
    obtain ⟨m, hm, rfl⟩ := item_of hy
    have il : i < ls.length := (List.getElem?_eq_some_iff.mp hm).1
    have m4 := l4 m (List.mem_of_getElem? hm)
    refine ⟨rfl, ?_⟩
    refine ⟨_, rfl, m, rfl, RgOk.of_le (by decide) (by omega) (by decide) m4.1, fun q hq => ?_⟩
    rw [rg_V]
    have u1 := same_new hq (.lst ((rgs m).map V.int))
    have qp : q ≠ p := (ne_of_none hacc hq).symm
    have e1 := u1 _ _ hacc
    refine ⟨acc, e1, lt_small (by rw [hA.len, List.length_take]; omega), same_own (s1.trans u1) hp _, _, upd_same, ?_⟩
    rw [take_more (show (ls.map rgs)[i]? = some (rgs m) by rw [List.getElem?_map, hm]; rfl)]
    refine SLs.app (hA.imp fun a xs z => ⟨z.1, (upd_ne z.1).trans (u1 _ _ z.2)⟩) (.cons ⟨qp, (upd_ne qp).trans upd_same⟩ .nil)
  · rintro H1 ⟨s1, acc, hacc, hA⟩
    rw [List.length_map, List.take_of_length_le (by rw [List.length_map]; exact Nat.le_refl _)] at hA
    have few := cart_few (rgs_four l4) (by rw [List.length_map]; exact h4)
    refine ⟨p, acc, ls.map rgs, rfl, SqL.of hacc, hA.imp fun a xs z => SqL.of z.2, few, by rw [List.length_map]; omega, fun c H2 xs hc s2 hx hR => ?_⟩
    have s12 := s1.trans s2
    have hh2 := hh.same s12
    refine ⟨_, rfl, c, rfl, ⟨_, SqL.of hx⟩, fun q hq => ?_⟩
    obtain ⟨nqh, nqd⟩ := hand_out hh2 hq
    have nch : c ≠ h := (ne_of_none (hh.same s1).1 hc).symm
    have hx0 := hx
    refine itl_walk (K := K) (a := c) (xs := xs) (fun i H3 => ∃ (n1 : Nat) (rs : List (List Int)), Hand H3 h d ds n1 ∧ AccJ (· = h) H2 q rs H3 ∧ rs.Sublist ((cart (ls.map rgs)).take i)) ⟨n0, [], hh2.new hq _, AccJ.start hq, List.nil_sublist _⟩ (fun i H3 _ ⟨_, _, _, b, _⟩ => SqL.of (b.go.out _ _ nch hx)) ?_ ?_
    · rintro i y H3 hy ⟨n1, rs, hh3, b, sub⟩
      obtain ⟨r, hr1, hr2⟩ := hR.of hy
      refine ⟨rfl, ?_⟩
      refine ⟨_, rfl, h, d, ds, n1, 8, rfl, hh3.1, hh3.2, by omega, by omega, fun z z0 z8 => ?_⟩
      have hh4 := hh3.next
      have b4 := AccJ.step (M := (· = h)) nqh b hh3.go
      refine ⟨_, rfl, _, _, rfl, rfl, _, rfl, ?_⟩
      refine ite2 (fun c => ?_) (fun c => ?_)
      · obtain ⟨acc2, e2, el, b5⟩ := b4.push (hr2.stay (b.go.tups.trans hh3.tups))
        refine ⟨_, rfl, acc2, e2, lt_small ?_, n1 + 1, rs ++ [r], hh4.off nqh nqd _, b5, ?_⟩
        · have l1 := sub.length_le
          rw [List.length_take] at l1
          have l2 := few (ls.map rgs).length
          rw [List.take_of_length_le (Nat.le_refl _)] at l2
          omega
        · rw [take_more hr1]
          exact sub.append (List.Sublist.refl _)
      · refine ⟨n1 + 1, rs, hh4, b4, ?_⟩
        rw [take_more hr1]
        exact sub.trans (List.sublist_append_left _ _)
    · rintro H3 ⟨n1, rs, hh3, b, sub⟩
      rw [hR.len, List.take_of_length_le (Nat.le_refl _)] at sub
      obtain ⟨acc2, e2, d2⟩ := b.ex
      refine ⟨q, acc2, rfl, .inl ⟨SqL.of e2, fun t ht => ?_⟩⟩
      have st := same_new ht (.tup acc2)
      exact k _ _ n1 rs (s12.go.trans (b.go.trans st.go)) (hh3.same st) ⟨t, acc2, rfl, SqT.of upd_same, d2.stay st.tups⟩ sub
end
section
variable {P : Program} {w : World} {K : PySem.W.Frag} {mg : Str → Option Value} {base : Heap}
def spLTask (K : PySem.W.Frag) : Sp := fun vs H Q _ => ∃ (h d : Addr) (ds : List Int) (n : Nat), vs = [.ref h] ∧ Hand H h d ds n ∧
  ∀ (a la wa ba : Addr) (wxs bxs : List V) (H' : Hp) (n' : Nat) (D : Int) (ls : List Int) (W B : List (List (List Int))), Go (· = h) H H' → Hand H' h d ds n' → SqT K H' a [.str "task", .int D, .ref la, .ref wa, .ref ba] → SqT K H' la (ls.map V.int) → SqT K H' wa wxs → RAll (RowsT K H') wxs W →
    SqT K H' ba bxs → RAll (RowsT K H') bxs B → Drawn D ls W B → Q (.ref a) H'
theorem four_at {z : Int} (z0 : 0 ≤ z) (z4 : z < 4) (a b c d : Int) : ∃ sh : Int, [V.int a, V.int b, V.int c, V.int d][z.toNat]? = some (V.int sh) := by
  rcases (by omega : z = 0 ∨ z = 1 ∨ z = 2 ∨ z = 3) with e | e | e | e <;> subst e
  · exact ⟨a, rfl⟩
  · exact ⟨b, rfl⟩
  · exact ⟨c, rfl⟩
  · exact ⟨d, rfl⟩
theorem three_at {c : Int} (c0 : 0 ≤ c) (c3 : c < 3) : [V.int 4, V.int 3, V.int 2][c.toNat]? = some (V.int (4 - c)) := by
  rcases (by omega : c = 0 ∨ c = 1 ∨ c = 2) with e | e | e <;> subst e <;> rfl
set_option maxHeartbeats 2000000 in
theorem ok_ltask {f : Addr} {fd : FuncData} (B : Blt mg) (g_law_take : Has P w K mg base CX0 1 "_law_take" ["hand", "many"] (spTake K)) (g_law_rows : Has P w K mg base CX0 2 "_law_rows" ["hand", "labels", "share"] (spLRows K)) (F : Fun K "_law_task" "_law_task" s_law_task f fd) : FnOk P w K mg base CX0 3 f fd ["hand"] (spLTask K) := by
  have sc : FnScope ["hand", "colours", "labels", "white", "black", "y", "c"] ["hand"] (defScope s_law_task) := ⟨rfl, rfl, rfl, by decide +kernel, rfl, by decide +kernel, by decide +kernel⟩
  refine F.ok sc (fun vs H Q E h => ?_) (fun cdv A outer s H vs Q E hr h => ?_)
  · obtain ⟨_, _, _, _, rfl, _⟩ := h
    rfl
  obtain ⟨h, d, ds, n0, rfl, hh, k⟩ := h
  refine ⟨_, (pss_cons (ps_set (i := 1) sc.nd rfl (Or.inr rfl) (pe_op op_add pe_int (pc g_law_take hr (pa_cons (pv 0) (pa_cons pe_int pa_nil)))))
    (pss_cons (ps_set (i := 2) sc.nd rfl (Or.inl rfl) (pe_callTy call_tuple_of (by rfl) B.tuple (by decide +kernel) (pa_cons (pe_lc (own := [("c", 6)]) (g := gName 6) (tt := tYes) rfl sc.nd (pi_range1 (by rfl) B.range (pa_cons (pv 1) pa_nil)) (blkOk_by (N := ["hand", "colours", "labels", "white", "black", "y", "c"]) (sc := defScope s_law_task) (by decide +kernel)) (fun _ _ _ _ _ => pg_name (i := 6) sc.nd rfl (Or.inl rfl)) (fun _ _ _ _ _ => pts_nil) (fun _ _ _ _ _ => (pe_op op_add pe_int (pc g_law_take hr (pa_cons (pv 0) (pa_cons (pe_ix (show IxR _ (rIxL K) from ix_list) (pe_lst (pa_cons pe_int (pa_cons pe_int (pa_cons pe_int pa_nil)))) (pe_op op_sub (pv 1) pe_int) (fun _ _ => rfl)) pa_nil)))))) pa_nil)))
    (pss_cons (ps_set (i := 3) sc.nd rfl (Or.inl rfl) (pe_tup (pa_cons (pc g_law_rows hr (pa_cons (pv 0) (pa_cons (pv 2) (pa_cons pe_int pa_nil)))) pa_nil)))
    (pss_cons (ps_set (i := 4) sc.nd rfl (Or.inl rfl) (pe_lst pa_nil))
    (pss_cons (ps_for PassesOwn.never rfl (pi_range1 (by rfl) B.range (pa_cons (pe_op op_add pe_int (pc g_law_take hr (pa_cons (pv 0) (pa_cons pe_int pa_nil)))) pa_nil)) (pg_name (i := 5) sc.nd rfl (Or.inl rfl))
      (pss_one (ps_expr (pe_bm PySem.F.plainAttrs_list PySem.F.slot_list_append PySem.F.type_list_append mt_append (pv 4) (pa_cons (pc g_law_rows hr (pa_cons (pv 0) (pa_cons (pv 2) (pa_cons (pe_ix ix_list (pe_lst (pa_cons pe_int (pa_cons pe_int (pa_cons pe_int (pa_cons pe_int pa_nil))))) (pc g_law_take hr (pa_cons (pv 0) (pa_cons pe_int pa_nil))) (fun _ _ => rfl)) pa_nil)))) pa_nil)))))
    (pss_one (ps_ret (pe_tup (pa_cons pe_str (pa_cons (pv 1) (pa_cons (pv 2) (pa_cons (pv 3) (pa_cons (pe_callTy call_tuple_of (by rfl) B.tuple (by decide +kernel) (pa_cons (pv 4) pa_nil)) pa_nil))))))))))))), ?_⟩
  refine ⟨_, rfl, h, d, ds, n0, 3, rfl, hh.1, hh.2, by omega, by omega, fun c c0 c3 => ⟨_, _, rfl, rfl, ?_⟩⟩
  have hh1 := hh.next
  have g1 := hh.go
  refine ⟨_, rfl, 2 + c, rfl, by omega, by omega, fun p hp => ?_⟩
  obtain ⟨nph, npd⟩ := hand_out hh1 hp
  refine itr_walk (lo := 0) (n := (2 + c).toNat) (fun i H1 => ∃ (n1 : Nat) (ns : List Int), Hand H1 h d ds n1 ∧ Go (· = h) (upd H h (.lst [.ref d, .int ((n0 + 1 : Nat) : Int)])) H1 ∧ H1 p = some (.lst (ns.map V.int)) ∧ ns.length = i ∧ ∀ m ∈ ns, 1 ≤ m ∧ m ≤ 4) ⟨_, [], hh1.new hp _, (same_new hp _).go, upd_same, rfl, fun m hm => by cases hm⟩ ?_ ?_
  · rintro i H1 hi ⟨n1, ns, hh2, g2, ep, len, lab⟩
    refine ⟨rfl, ?_⟩
    refine ⟨_, rfl, (by show 3 ≤ sizeLine; decide), fun q hq => ?_⟩
    have u1 := same_new hq (.lst [V.int 4, V.int 3, V.int 2])
    have hh3 := hh2.same u1
    refine ⟨_, rfl, _, _, rfl, rfl, q, _, _, _, rfl, rfl, SqL.of upd_same, at_of (j := c.toNat) (by omega) (three_at c0 c3), h, d, ds, n1, 4 - c, rfl, hh3.1, hh3.2, by omega, by omega, fun z z0 zm => ⟨_, _, rfl, rfl, ?_⟩⟩
    have g3 := g2.trans (u1.go.trans hh3.go)
    have ep3 := (u1.go.trans hh3.go).out _ _ nph ep
    refine ⟨_, ep3, lt_small (by rw [List.length_map]; omega), n1 + 1, ns ++ [1 + z], hh3.next.off nph npd _, go_own g3 hp ep3 _, ?_, by rw [List.length_append, len]; rfl, fun m hm => ?_⟩
    · rw [upd_same, List.map_append]
      rfl
    · rcases List.mem_append.mp hm with hm | hm
      · exact lab m hm
      · rw [List.mem_singleton.mp hm]
        omega
  rintro H1 ⟨n1, ls, hh2, g2, ep, len, lab⟩
  have h4 : ls.length ≤ 4 := by omega
  have l4 : ∀ m ∈ ls, 0 ≤ m ∧ m ≤ 4 := fun m hm => ⟨by have := lab m hm; omega, (lab m hm).2⟩
  refine ⟨p, _, rfl, .inl ⟨SqL.of ep, fun la hla0 => ?_⟩⟩
  have u2 := same_new hla0 (.tup (ls.map V.int))
  have hh3 := hh2.same u2
  have hla : SqT K (upd H1 la (.tup (ls.map V.int))) la (ls.map V.int) := SqT.of upd_same
  have g3 := g1.trans (g2.trans u2.go)
  refine ⟨_, rfl, _, rfl, h, d, ds, n1, la, ls, 2, rfl, hh3, hla, l4, h4, fun wv H4 n4 wrows g4 hh4 hwv wsub => ⟨(by show 1 ≤ sizeLine; decide), fun wa hwa => ?_⟩⟩
  have u4 := same_new hwa (.tup [wv])
  have hh5 := hh4.same u4
  have g5 := g4.trans u4.go
  refine ⟨Nat.zero_le _, fun p2 hp2 => ?_⟩
  have u5 := same_new hp2 (.lst [])
  have hh6 := hh5.same u5
  obtain ⟨nph2, npd2⟩ := hand_out hh5 hp2
  have hla6 := u5.seqT (g5.seqT hla)
  have hwaT := u5.seqT (SqT.of (K := K) (upd_same (H := H4) (a := wa) (o := .tup [wv])))
  have hW : RAll (RowsT K (upd (upd H4 wa (.tup [wv])) p2 (.lst []))) [wv] [wrows] := .cons ((hwv.stay u4.tups).stay u5.tups) .nil
  refine ⟨_, rfl, h, d, ds, n4, 3, rfl, hh6.1, hh6.2, by omega, by omega, fun y y0 y3 => ⟨_, _, rfl, rfl, 1 + y, rfl, by omega, by omega, ?_⟩⟩
  have hh7 := hh6.next
  have g7 := hh6.go
  have e7 := g7.out _ _ nph2 (upd_same (H := upd H4 wa (.tup [wv])) (a := p2) (o := .lst []))
  refine for_range (lo := 0) (n := (1 + y).toNat) (fun i σ H8 => ∃ (yv : Option V) (n8 : Nat) (acc : List V) (Bs : List (List (List Int))), σ = [some (.ref h), some (.int (2 + c)), some (.ref la), some (.ref wa), some (.ref p2), yv, none] ∧
    Hand H8 h d ds n8 ∧ Go (· = h) (upd H4 wa (.tup [wv])) H8 ∧ H8 p2 = some (.lst acc) ∧ RAll (RowsT K H8) acc Bs ∧ Bs.length = i ∧ ∀ rows ∈ Bs, SubR ls rows) ⟨none, _, [], [], rfl, hh7, u5.go.trans g7, e7, .nil, rfl, fun rows hrw => by cases hrw⟩ ?_ ?_
  · rintro i σ H8 hi ⟨yv, n8, acc, Bs, rfl, hh8, g8, e8, hB, len8, sub8⟩
    refine ⟨_, rfl, .inl ⟨rfl, _, SqL.of e8⟩, _, rfl, _, rfl, (by show 4 ≤ sizeLine; decide), fun q hq => ?_⟩
    have u8 := same_new hq (.lst [V.int 3, V.int 6, V.int 7, V.int 8])
    have hh9 := hh8.same u8
    refine ⟨_, rfl, h, d, ds, n8, 4, rfl, hh9.1, hh9.2, by omega, by omega, fun z z0 z4 => ?_⟩
    have hh10 := hh9.next
    have g10 := u8.go.trans hh9.go
    obtain ⟨sh, hsh⟩ := four_at z0 z4 3 6 7 8
    have nqh : q ≠ h := (ne_of_none hh8.1 hq).symm
    refine ⟨q, _, _, _, rfl, rfl, SqL.of (hh9.go.out _ _ nqh upd_same), at_of (j := z.toNat) (by omega) hsh, ?_⟩
    refine ⟨h, d, ds, _, la, ls, sh, rfl, hh10, (g8.trans g10).seqT (g5.seqT hla), l4, h4, fun bv H11 n11 brows g11 hh11 hbv bsub => ?_⟩
    have g12 := g10.trans g11
    have e11 := g12.out _ _ nph2 e8
    have t12 := g12.tups.trans (tups_lst (ys := acc ++ [bv]) e11)
    refine ⟨p2, acc, _, rfl, rfl, e11, lt_small (by rw [hB.len]; omega), ?_⟩
    refine ⟨_, n11, acc ++ [bv], Bs ++ [brows], rfl, hh11.off nph2 npd2 _, go_own (g8.trans g12) hp2 e11 _, upd_same, (hB.imp fun v r z => z.stay t12).app (.cons (hbv.stay (tups_lst e11)) .nil), by rw [List.length_append, len8]; rfl, fun rows hrw => ?_⟩
    rcases List.mem_append.mp hrw with hrw | hrw
    · exact sub8 rows hrw
    · rw [List.mem_singleton.mp hrw]
      exact bsub
  · rintro σ H8 ⟨yv, n8, acc, Bs, rfl, hh8, g8, e8, hB, len8, sub8⟩
    refine ⟨_, rfl, _, rfl, _, rfl, _, rfl, p2, acc, rfl, .inl ⟨SqL.of e8, fun ba hba => ?_⟩⟩
    have u9 := same_new hba (.tup acc)
    refine ⟨(by show 5 ≤ sizeLine; decide), fun a ha => ?_⟩
    have u10 := same_new ha (.tup [V.str "task", .int (2 + c), .ref la, .ref wa, .ref ba])
    have u := u9.trans u10
    have gall := g8.trans u.go
    have twp := (SqT.of (K := K) (upd_same (H := H4) (a := wa) (o := .tup [wv])))
    exact k a la wa ba [wv] acc _ n8 (2 + c) ls [wrows] Bs (g3.trans (g5.trans gall)) (hh8.same u) (SqT.of upd_same) (gall.seqT (g5.seqT hla)) (gall.seqT twp) (.cons ((hwv.stay u4.tups).stay gall.tups) .nil) (u10.seqT (SqT.of upd_same)) (hB.imp fun v r z => z.stay u.tups)
      ⟨by omega, by omega, by omega, lab, by simp, by simp, fun rows hrw => by rw [List.mem_singleton.mp hrw]; exact wsub, by omega, by omega, sub8⟩
end
section
variable {P : Program} {w : World} {K : PySem.W.Frag} {mg : Str → Option Value} {base : Heap}
def Own (h : Addr) (H : Hp) (a : Addr) (xs : List V) : Prop := a ≠ h ∧ H a = some (.lst xs)
def spLSets (K : PySem.W.Frag) : Sp := fun vs H Q _ => ∃ (h d : Addr) (ds : List Int) (n : Nat) (ra la : Addr) (rows : List (List Int)) (ls : List Int), vs = [.ref h, .ref ra, .ref la] ∧ Hand H h d ds n ∧ RowsT K H (.ref ra) rows ∧ SubR ls rows ∧ rows.length ≤ 2000 ∧ SqT K H la (ls.map V.int) ∧ (∀ m ∈ ls, 1 ≤ m ∧ m ≤ 4) ∧ ls.length ≤ 4 ∧
  ∀ (p : Addr) (H' : Hp) (n' : Nat) (acc : List V) (raw : List (List Int)), Go (· = h) H H' → Hand H' h d ds n' → p ≠ h → H' p = some (.lst acc) → SLs (Own h H') acc raw → raw.length = ls.length → Q (.ref p) H'
theorem sub_rl {ls : List Int} {rows : List (List Int)} {r : List Int} (s : SubR ls rows) (h : r ∈ rows) : r.length = ls.length := by
  have := (mem_cart.mp (s.subset h)).1
  rwa [List.length_map] at this
set_option maxHeartbeats 4000000 in
theorem ok_lsets {f : Addr} {fd : FuncData} (B : Blt mg) (g_law_take : Has P w K mg base CX0 1 "_law_take" ["hand", "many"] (spTake K)) (F : Fun K "_law_sets" "_law_sets" s_law_sets f fd) : FnOk P w K mg base CX0 2 f fd ["hand", "rows", "labels"] (spLSets K) := by
  have sc : FnScope ["hand", "rows", "labels", "sets", "row", "at", "one", "many", "label"] ["hand", "rows", "labels"] (defScope s_law_sets) := ⟨rfl, rfl, rfl, by decide +kernel, rfl, by decide +kernel, by decide +kernel⟩
  refine F.ok sc (fun vs H Q E h => ?_) (fun cdv A outer s H vs Q E hr h => ?_)
  · obtain ⟨_, _, _, _, _, _, _, _, rfl, _⟩ := h
    rfl
  obtain ⟨h, d, ds, n0, ra, la, rows, ls, rfl, hh, hrows, sub, r2, hla, lab, h4, k⟩ := h
  refine ⟨_, (pss_cons (ps_set (i := 3) sc.nd rfl (Or.inl rfl) (pe_lst pa_nil))
    (pss_cons (ps_set (i := 4) sc.nd rfl (Or.inl rfl) (pe_callTy call_tuple_of (by rfl) B.tuple (by decide +kernel) (pa_cons (pe_lc (own := [("many", 7)]) (g := gName 7) (tt := tYes) rfl sc.nd (pi_tup (pv 2)) (blkOk_by (N := ["hand", "rows", "labels", "sets", "row", "at", "one", "many", "label"]) (sc := defScope s_law_sets) (by decide +kernel)) (fun _ _ _ _ _ => pg_name (i := 7) sc.nd rfl (Or.inl rfl)) (fun _ _ _ _ _ => pts_nil) (fun _ _ _ _ _ => (pc g_law_take hr (pa_cons (pv 0) (pa_cons (pv 7) pa_nil))))) pa_nil)))
    (pss_cons (ps_if (PW.pt (pw_and (pt_cmpR op_gt (pe_callB call_len_seq (by rfl) B.len (by decide +kernel) (pa_cons (pv 1) pa_nil)) pe_int (nomark _)) (pw_and1 (pt_cmpR op_gt (pc g_law_take hr (pa_cons (pv 0) (pa_cons pe_int pa_nil))) pe_int (nomark _)))))
      (pss_one (ps_set (i := 4) sc.nd rfl (Or.inl rfl) (pe_ix ix_tup (pv 1) (pc g_law_take hr (pa_cons (pv 0) (pa_cons (pe_callB call_len_seq (by rfl) B.len (by decide +kernel) (pa_cons (pv 1) pa_nil)) pa_nil))) (fun _ _ => rfl))))
      pss_nil)
    (pss_cons (ps_for PassesOwn.never rfl (pi_range1 (by rfl) B.range (pa_cons (pe_callB call_len_seq (by rfl) B.len (by decide +kernel) (pa_cons (pv 2) pa_nil)) pa_nil)) (pg_name (i := 5) sc.nd rfl (Or.inl rfl))
      (pss_cons (ps_set (i := 6) sc.nd rfl (Or.inl rfl) (pe_lst (pa_cons (pe_ix ix_tup (pv 4) (pv 5) (fun _ _ => rfl)) pa_nil)))
      (pss_cons (ps_if (pt_cmpR op_eqi (pc g_law_take hr (pa_cons (pv 0) (pa_cons pe_int pa_nil))) pe_int (nomark _))
        (pss_one (ps_expr (pe_bm PySem.F.plainAttrs_list PySem.F.slot_list_append PySem.F.type_list_append mt_append (pv 6) (pa_cons (pc g_law_take hr (pa_cons (pv 0) (pa_cons (pe_ix ix_tup (pv 2) (pv 5) (fun _ _ => rfl)) pa_nil))) pa_nil))))
        pss_nil)
      (pss_cons (ps_if (pt_cmpR op_eqi (pc g_law_take hr (pa_cons (pv 0) (pa_cons pe_int pa_nil))) pe_int (nomark _))
        (pss_one (ps_setLc (i := 6) (own := [("label", 8)]) (g := gName 8) (tt := tYes) rfl sc.nd rfl rfl (sw_true rfl rfl rfl (by decide +kernel)) (pi_range1 (by rfl) B.range (pa_cons (pe_ix ix_tup (pv 2) (pv 5) (fun _ _ => rfl)) pa_nil)) (blkOk_by (N := ["hand", "rows", "labels", "sets", "row", "at", "one", "many", "label"]) (sc := defScope s_law_sets) (by decide +kernel)) (fun _ _ _ _ _ => pg_name (i := 8) sc.nd rfl (Or.inl rfl)) (fun _ _ _ _ _ => pts_nil) (fun _ _ _ _ _ => (pv 8))))
        pss_nil)
      (pss_one (ps_expr (pe_bm PySem.F.plainAttrs_list PySem.F.slot_list_append PySem.F.type_list_append mt_append (pv 3) (pa_cons (pv 6) pa_nil))))))))
    (pss_one (ps_ret (pv 3))))))), ?_⟩
  obtain ⟨ra', rxs, e0, hra, hRT⟩ := hrows
  cases e0
  refine ⟨Nat.zero_le _, fun p hp => ?_⟩
  have u0 := same_new hp (.lst [])
  obtain ⟨nph, npd⟩ := hand_out hh hp
  have hh0 := hh.same u0
  refine ⟨_, rfl, la, rfl, ⟨_, u0.seqT hla⟩, fun q hq => ?_⟩
  obtain ⟨nqh, nqd⟩ := hand_out hh0 hq
  have nqp : q ≠ p := (ne_of_none upd_same hq).symm
  refine itt_walk (K := K) (a := la) (xs := ls.map V.int) (fun i H1 => ∃ (n1 : Nat) (ns : List Int), Hand H1 h d ds n1 ∧ Go (· = h) (upd H p (.lst [])) H1 ∧ H1 q = some (.lst (ns.map V.int)) ∧ ns.length = i) ⟨_, [], hh0.new hq _, (same_new hq _).go, upd_same, rfl⟩ (fun i H1 _ ⟨_, _, _, g, _⟩ => g.seqT (u0.seqT hla)) ?_ ?_
  · rintro i y H1 hy ⟨n1, ns, hh1, g1, e1, len⟩
    obtain ⟨m, hm, rfl⟩ := item_of hy
    have m4 := lab m (List.mem_of_getElem? hm)
    have il : i < ls.length := (List.getElem?_eq_some_iff.mp hm).1
    refine ⟨rfl, ?_⟩
    refine ⟨_, rfl, _, rfl, h, d, ds, n1, m, rfl, hh1.1, hh1.2, by omega, by omega, fun z z0 zm => ?_⟩
    have e2 := hh1.go.out _ _ nqh e1
    refine ⟨_, e2, lt_small (by rw [List.length_map]; omega), n1 + 1, ns ++ [z], hh1.next.off nqh nqd _, go_own (g1.trans hh1.go) hq e2 _, ?_, by rw [List.length_append, len]; rfl⟩
    rw [upd_same, List.map_append]
    rfl
  rintro H1 ⟨n1, ns, hh1, g1, e1, len⟩
  rw [List.length_map] at len
  refine ⟨q, _, rfl, .inl ⟨SqL.of e1, fun t ht => ?_⟩⟩
  have u2 := same_new ht (.tup (ns.map V.int))
  have hh2 := hh1.same u2
  have g2 := g1.trans u2.go
  have ep2 := g2.out _ _ nph (upd_same (H := H) (a := p) (o := .lst []))
  have rt2 : RT (upd H1 t (.tup (ns.map V.int))) (.ref t) ns := ⟨t, rfl, upd_same⟩
  have hra2 := g2.seqT (u0.seqT hra)
  have hla2 := g2.seqT (u0.seqT hla)
  have hRT2 := hRT.stay (u0.tups.trans g2.tups)
  generalize hH2 : upd H1 t (.tup (ns.map V.int)) = H2 at hh2 g2 ep2 rt2 hra2 hla2 hRT2 ⊢
  refine ⟨_, rfl, ra, _, rfl, .inr hra2, _, _, rfl, rfl, _, rfl, ?_⟩
  refine ite2 (fun c => ?_) (fun c => ?_)
  · have c1 := dec_t c
    refine ⟨_, rfl, h, d, ds, n1, 4, rfl, hh2.1, hh2.2, by omega, by omega, fun z z0 z4 => ⟨_, _, rfl, rfl, _, rfl, ?_⟩⟩
    have hh3 := hh2.next
    have g3 := hh2.go
    have e3 := g3.out _ _ nph ep2
    refine ite2 (fun c2 => ?_) (fun c2 => ?_)
    · have rx : rxs.length = rows.length := hRT.len
      refine ⟨_, rfl, _, rfl, _, rfl, ra, _, rfl, .inr (g3.seqT hra2), h, d, ds, n1 + 1, ((rxs.length : Nat) : Int), rfl, hh3.1, hh3.2, by omega, by omega, fun y y0 ym => ?_⟩
      have yl : y.toNat < rxs.length := by omega
      have hv : rxs[y.toNat]? = some rxs[y.toNat] := List.getElem?_eq_getElem yl
      obtain ⟨rn, hrn1, rv, hrv0, hrv⟩ := hRT2.of hv
      rw [hrv0] at hv
      have hhX := hh3.next
      have gX : Go (· = h) H _ := (u0.go.trans g2).trans (g3.trans hh3.go)
      have tX : TupsStay H2 _ := g3.tups.trans hh3.go.tups
      have eX := hh3.go.out _ _ nph e3
      have rl : rn.length = ls.length := sub_rl sub (List.mem_of_getElem? hrn1)
      refine ⟨ra, _, _, _, rfl, rfl, (g3.trans hh3.go).seqT hra2, at_of (j := y.toNat) (by omega) hv, ?_⟩
      refine ⟨_, rfl, la, _, rfl, .inr (gX.seqT hla), (((ls.map V.int).length : Nat) : Int), rfl, by omega, by rw [List.length_map]; omega, for_range (lo := 0) (n := (((ls.map V.int).length : Nat) : Int).toNat) (fun i σ H5 => ∃ (av ov : Option V) (n5 : Nat) (acc : List V) (raw : List (List Int)), σ = [some (.ref h), some (.ref ra), some (.ref la), some (.ref p), some (.ref rv), av, ov, none, none] ∧
        Hand H5 h d ds n5 ∧ Go (· = h) H H5 ∧ TupsStay H2 H5 ∧ H5 p = some (.lst acc) ∧ SLs (fun a xs => a ≠ p ∧ Own h H5 a xs) acc raw ∧ raw.length = i) ⟨none, none, _, [], [], rfl, hhX, gX, tX, eX, .nil, rfl⟩ ?_ ?_⟩
      · rintro i σ H5 hi ⟨av, ov, n5, acc, raw, rfl, hh5, g5, t5, e5, hA, len5⟩
        have il : i < ls.length := by
          rw [List.length_map] at hi
          omega
        have hm : ls[i]? = some ls[i] := List.getElem?_eq_getElem il
        have m4 := lab _ (List.getElem_mem il)
        have hr5 : H5 rv = some (.tup (rn.map V.int)) := t5 _ _ (.inl ⟨_, rfl⟩) hrv
        have la_i : (ls.map V.int)[i]? = some (V.int ls[i]) := by rw [List.getElem?_map, hm]; rfl
        obtain ⟨rz, hrz⟩ : ∃ rz, (rn.map V.int)[i]? = some (V.int rz) := ⟨rn[i], by simp⟩
        have fin : ∀ (o : Addr) (xs : List Int) (H9 : Hp) (n9 : Nat), Hand H9 h d ds n9 → Go (· = h) H5 H9 → o ≠ h → o ≠ p → H9 o = some (.lst (xs.map V.int)) → H9 p = some (.lst acc) ∧ acc.length < sizeLine ∧ ∃ (av ov : Option V) (n5 : Nat) (acc' : List V) (raw : List (List Int)), [some (V.ref h), some (.ref ra), some (.ref la), some (.ref p), some (.ref rv), some (.int (0 + (i : Int))), some (.ref o), none, none] = [some (V.ref h), some (.ref ra), some (.ref la), some (.ref p), some (.ref rv), av, ov, none, none] ∧
            Hand (upd H9 p (.lst (acc ++ [.ref o]))) h d ds n5 ∧ Go (· = h) H (upd H9 p (.lst (acc ++ [.ref o]))) ∧ TupsStay H2 (upd H9 p (.lst (acc ++ [.ref o]))) ∧ (upd H9 p (.lst (acc ++ [.ref o]))) p = some (.lst acc') ∧ SLs (fun a xs => a ≠ p ∧ Own h (upd H9 p (.lst (acc ++ [.ref o]))) a xs) acc' raw ∧ raw.length = i + 1 := fun o xs H9 n9 hh9 g9 no np eo => by
          have e9 := g9.out _ _ nph e5
          exact ⟨e9, lt_small (by rw [hA.len]; omega), _, _, n9, acc ++ [.ref o], raw ++ [xs], rfl, hh9.off nph npd _, go_own (g5.trans g9) hp e9 _, t5.trans (g9.tups.trans (tups_lst e9)), upd_same, SLs.app (hA.imp fun a xs z => ⟨z.1, z.2.1, (upd_ne z.1).trans (g9.out _ _ z.2.1 z.2.2)⟩) (.cons ⟨np, no, (upd_ne np).trans eo⟩ .nil), by rw [List.length_append, len5]; rfl⟩
        refine ⟨_, rfl, _, rfl, rv, _, _, _, rfl, rfl, SqT.of hr5, at_of (j := i) (by omega) hrz, (by show 1 ≤ sizeLine; decide), fun o ho => ?_⟩
        have u6 := same_new ho (.lst [V.int rz])
        have hh6 := hh5.same u6
        have noh : o ≠ h := (ne_of_none hh5.1 ho).symm
        have nod : o ≠ d := (ne_of_none hh5.2 ho).symm
        have nop : o ≠ p := (ne_of_none e5 ho).symm
        refine ⟨_, rfl, h, d, ds, n5, 3, rfl, hh6.1, hh6.2, by omega, by omega, fun z z0 z3 => ⟨_, _, rfl, rfl, _, rfl, ?_⟩⟩
        have hh7 := hh6.next
        have e7 := hh6.go.out _ _ noh (upd_same (H := H5) (a := o) (o := .lst [V.int rz]))
        have g7 := u6.go.trans hh6.go
        refine ite2 (fun c => ?_) (fun c => ?_)
        · refine ⟨_, rfl, .inl ⟨rfl, _, SqL.of e7⟩, _, rfl, _, rfl, _, rfl, la, _, _, _, rfl, rfl, (g5.trans g7).seqT hla, at_of (j := i) (by omega) la_i, h, d, ds, n5 + 1, ls[i], rfl, hh7.1, hh7.2, by omega, by omega, fun y y0 ym => ?_⟩
          have e8 := hh7.go.out _ _ noh e7
          refine ⟨o, _, _, rfl, rfl, e8, (by show 1 < sizeLine; decide), ?_⟩
          have hhM := hh7.next.off noh nod (.lst ([V.int rz] ++ [V.int y]))
          have gM := go_own (g7.trans hh7.go) ho e8 ([V.int rz] ++ [V.int y])
          have eM := upd_same (H := upd (upd (upd H5 o (.lst [V.int rz])) h (.lst [.ref d, .int ((n5 + 1 : Nat) : Int)])) h (.lst [.ref d, .int ((n5 + 1 + 1 : Nat) : Int)])) (a := o) (o := .lst ([rz, y].map V.int))
          obtain ⟨nM, hnM⟩ : ∃ nM, nM = n5 + 1 + 1 := ⟨_, rfl⟩
          obtain ⟨ox, hox⟩ : ∃ ox : List Int, ox = [rz, y] := ⟨_, rfl⟩
          rw [← hox] at eM
          have ev : [V.int rz] ++ [V.int y] = ox.map V.int := by rw [hox]; rfl
          rw [ev] at hhM gM ⊢
          generalize upd (upd (upd (upd H5 o (.lst [V.int rz])) h (.lst [.ref d, .int ((n5 + 1 : Nat) : Int)])) h (.lst [.ref d, .int ((n5 + 1 + 1 : Nat) : Int)])) o (.lst (ox.map V.int)) = HM at hhM gM eM ⊢
          rw [← hnM] at hhM
          refine ⟨_, rfl, h, d, ds, nM, 6, rfl, hhM.1, hhM.2, by omega, by omega, fun z z0 z3 => ⟨_, _, rfl, rfl, _, rfl, ?_⟩⟩
          have hhN := hhM.next
          have gN := gM.trans hhM.go
          have eN := hhM.go.out _ _ noh eM
          refine ite2 (fun c => ?_) (fun c => ?_)
          · refine ⟨_, rfl, _, rfl, la, _, _, _, rfl, rfl, (g5.trans gN).seqT hla, at_of (j := i) (by omega) la_i, ls[i], rfl, by omega, by omega, fun o2 ho2 => ?_⟩
            have no2 : o2 ≠ h := (ne_of_none hhN.1 ho2).symm
            have np2 : o2 ≠ p := (ne_of_none (gN.out _ _ nph e5) ho2).symm
            refine itr_walk (lo := 0) (n := ls[i].toNat) (fun j H10 => Same (upd HM h (.lst [.ref d, .int ((nM + 1 : Nat) : Int)])) H10 ∧ ∃ ys : List Int, H10 o2 = some (.lst (ys.map V.int)) ∧ ys.length = j) ⟨same_new ho2 _, [], upd_same, rfl⟩ ?_ ?_
            · rintro j H10 hj ⟨s10, ys, ey, leny⟩
              refine ⟨rfl, ?_⟩
              exact ⟨_, rfl, _, ey, lt_small (by rw [List.length_map]; omega), same_own s10 ho2 _, ys ++ [0 + (j : Int)], by rw [upd_same, List.map_append]; rfl, by rw [List.length_append, leny]; rfl⟩
            · rintro H10 ⟨s10, ys, ey, leny⟩
              obtain ⟨q1, q2, q3⟩ := fin o2 ys H10 _ (hhN.same s10) (gN.trans s10.go) no2 np2 ey
              exact ⟨_, rfl, .inl ⟨rfl, _, SqL.of q1⟩, _, rfl, p, acc, _, rfl, rfl, q1, q2, q3⟩
          · obtain ⟨q1, q2, q3⟩ := fin o ox _ _ hhN gN noh nop eN
            exact ⟨_, rfl, .inl ⟨rfl, _, SqL.of q1⟩, _, rfl, p, acc, _, rfl, rfl, q1, q2, q3⟩
        · have hhM := hh7
          have gM := g7
          obtain ⟨nM, hnM⟩ : ∃ nM, nM = n5 + 1 := ⟨_, rfl⟩
          obtain ⟨ox, hox⟩ : ∃ ox : List Int, ox = [rz] := ⟨_, rfl⟩
          have eM := e7
          have ev : [V.int rz] = ox.map V.int := by rw [hox]; rfl
          rw [ev] at hhM gM eM ⊢
          generalize upd (upd H5 o (.lst (ox.map V.int))) h (.lst [.ref d, .int ((n5 + 1 : Nat) : Int)]) = HM at hhM gM eM ⊢
          rw [← hnM] at hhM
          refine ⟨_, rfl, h, d, ds, nM, 6, rfl, hhM.1, hhM.2, by omega, by omega, fun z z0 z3 => ⟨_, _, rfl, rfl, _, rfl, ?_⟩⟩
          have hhN := hhM.next
          have gN := gM.trans hhM.go
          have eN := hhM.go.out _ _ noh eM
          refine ite2 (fun c => ?_) (fun c => ?_)
          · refine ⟨_, rfl, _, rfl, la, _, _, _, rfl, rfl, (g5.trans gN).seqT hla, at_of (j := i) (by omega) la_i, ls[i], rfl, by omega, by omega, fun o2 ho2 => ?_⟩
            have no2 : o2 ≠ h := (ne_of_none hhN.1 ho2).symm
            have np2 : o2 ≠ p := (ne_of_none (gN.out _ _ nph e5) ho2).symm
            refine itr_walk (lo := 0) (n := ls[i].toNat) (fun j H10 => Same (upd HM h (.lst [.ref d, .int ((nM + 1 : Nat) : Int)])) H10 ∧ ∃ ys : List Int, H10 o2 = some (.lst (ys.map V.int)) ∧ ys.length = j) ⟨same_new ho2 _, [], upd_same, rfl⟩ ?_ ?_
            · rintro j H10 hj ⟨s10, ys, ey, leny⟩
              refine ⟨rfl, ?_⟩
              exact ⟨_, rfl, _, ey, lt_small (by rw [List.length_map]; omega), same_own s10 ho2 _, ys ++ [0 + (j : Int)], by rw [upd_same, List.map_append]; rfl, by rw [List.length_append, leny]; rfl⟩
            · rintro H10 ⟨s10, ys, ey, leny⟩
              obtain ⟨q1, q2, q3⟩ := fin o2 ys H10 _ (hhN.same s10) (gN.trans s10.go) no2 np2 ey
              exact ⟨_, rfl, .inl ⟨rfl, _, SqL.of q1⟩, _, rfl, p, acc, _, rfl, rfl, q1, q2, q3⟩
          · obtain ⟨q1, q2, q3⟩ := fin o ox _ _ hhN gN noh nop eN
            exact ⟨_, rfl, .inl ⟨rfl, _, SqL.of q1⟩, _, rfl, p, acc, _, rfl, rfl, q1, q2, q3⟩
      · rintro σ H5 ⟨av, ov, n5, acc, raw, rfl, hh5, g5, t5, e5, hA, len5⟩
        refine ⟨_, rfl, ?_⟩
        exact k p H5 n5 acc raw g5 hh5 nph e5 (hA.imp fun a xs z => z.2) (by rw [len5, List.length_map]; omega)
    · obtain ⟨rv, hrv0⟩ : ∃ rv, rv = t := ⟨_, rfl⟩
      obtain ⟨rn, hrn0⟩ : ∃ rn, rn = ns := ⟨_, rfl⟩
      have hrv : H2 rv = some (.tup (rn.map V.int)) := by
        obtain ⟨t', e, q⟩ := rt2
        cases e
        rw [hrv0, hrn0]
        exact q
      rw [← hrv0]
      have rl : rn.length = ls.length := by rw [hrn0, len]
      have hhX := hh3
      have gX : Go (· = h) H _ := (u0.go.trans g2).trans g3
      have tX : TupsStay H2 _ := g3.tups
      have eX := e3
      refine ⟨_, rfl, la, _, rfl, .inr (gX.seqT hla), (((ls.map V.int).length : Nat) : Int), rfl, by omega, by rw [List.length_map]; omega, for_range (lo := 0) (n := (((ls.map V.int).length : Nat) : Int).toNat) (fun i σ H5 => ∃ (av ov : Option V) (n5 : Nat) (acc : List V) (raw : List (List Int)), σ = [some (.ref h), some (.ref ra), some (.ref la), some (.ref p), some (.ref rv), av, ov, none, none] ∧
        Hand H5 h d ds n5 ∧ Go (· = h) H H5 ∧ TupsStay H2 H5 ∧ H5 p = some (.lst acc) ∧ SLs (fun a xs => a ≠ p ∧ Own h H5 a xs) acc raw ∧ raw.length = i) ⟨none, none, _, [], [], rfl, hhX, gX, tX, eX, .nil, rfl⟩ ?_ ?_⟩
      · rintro i σ H5 hi ⟨av, ov, n5, acc, raw, rfl, hh5, g5, t5, e5, hA, len5⟩
        have il : i < ls.length := by
          rw [List.length_map] at hi
          omega
        have hm : ls[i]? = some ls[i] := List.getElem?_eq_getElem il
        have m4 := lab _ (List.getElem_mem il)
        have hr5 : H5 rv = some (.tup (rn.map V.int)) := t5 _ _ (.inl ⟨_, rfl⟩) hrv
        have la_i : (ls.map V.int)[i]? = some (V.int ls[i]) := by rw [List.getElem?_map, hm]; rfl
        obtain ⟨rz, hrz⟩ : ∃ rz, (rn.map V.int)[i]? = some (V.int rz) := ⟨rn[i], by simp⟩
        have fin : ∀ (o : Addr) (xs : List Int) (H9 : Hp) (n9 : Nat), Hand H9 h d ds n9 → Go (· = h) H5 H9 → o ≠ h → o ≠ p → H9 o = some (.lst (xs.map V.int)) → H9 p = some (.lst acc) ∧ acc.length < sizeLine ∧ ∃ (av ov : Option V) (n5 : Nat) (acc' : List V) (raw : List (List Int)), [some (V.ref h), some (.ref ra), some (.ref la), some (.ref p), some (.ref rv), some (.int (0 + (i : Int))), some (.ref o), none, none] = [some (V.ref h), some (.ref ra), some (.ref la), some (.ref p), some (.ref rv), av, ov, none, none] ∧
            Hand (upd H9 p (.lst (acc ++ [.ref o]))) h d ds n5 ∧ Go (· = h) H (upd H9 p (.lst (acc ++ [.ref o]))) ∧ TupsStay H2 (upd H9 p (.lst (acc ++ [.ref o]))) ∧ (upd H9 p (.lst (acc ++ [.ref o]))) p = some (.lst acc') ∧ SLs (fun a xs => a ≠ p ∧ Own h (upd H9 p (.lst (acc ++ [.ref o]))) a xs) acc' raw ∧ raw.length = i + 1 := fun o xs H9 n9 hh9 g9 no np eo => by
          have e9 := g9.out _ _ nph e5
          exact ⟨e9, lt_small (by rw [hA.len]; omega), _, _, n9, acc ++ [.ref o], raw ++ [xs], rfl, hh9.off nph npd _, go_own (g5.trans g9) hp e9 _, t5.trans (g9.tups.trans (tups_lst e9)), upd_same, SLs.app (hA.imp fun a xs z => ⟨z.1, z.2.1, (upd_ne z.1).trans (g9.out _ _ z.2.1 z.2.2)⟩) (.cons ⟨np, no, (upd_ne np).trans eo⟩ .nil), by rw [List.length_append, len5]; rfl⟩
        refine ⟨_, rfl, _, rfl, rv, _, _, _, rfl, rfl, SqT.of hr5, at_of (j := i) (by omega) hrz, (by show 1 ≤ sizeLine; decide), fun o ho => ?_⟩
        have u6 := same_new ho (.lst [V.int rz])
        have hh6 := hh5.same u6
        have noh : o ≠ h := (ne_of_none hh5.1 ho).symm
        have nod : o ≠ d := (ne_of_none hh5.2 ho).symm
        have nop : o ≠ p := (ne_of_none e5 ho).symm
        refine ⟨_, rfl, h, d, ds, n5, 3, rfl, hh6.1, hh6.2, by omega, by omega, fun z z0 z3 => ⟨_, _, rfl, rfl, _, rfl, ?_⟩⟩
        have hh7 := hh6.next
        have e7 := hh6.go.out _ _ noh (upd_same (H := H5) (a := o) (o := .lst [V.int rz]))
        have g7 := u6.go.trans hh6.go
        refine ite2 (fun c => ?_) (fun c => ?_)
        · refine ⟨_, rfl, .inl ⟨rfl, _, SqL.of e7⟩, _, rfl, _, rfl, _, rfl, la, _, _, _, rfl, rfl, (g5.trans g7).seqT hla, at_of (j := i) (by omega) la_i, h, d, ds, n5 + 1, ls[i], rfl, hh7.1, hh7.2, by omega, by omega, fun y y0 ym => ?_⟩
          have e8 := hh7.go.out _ _ noh e7
          refine ⟨o, _, _, rfl, rfl, e8, (by show 1 < sizeLine; decide), ?_⟩
          have hhM := hh7.next.off noh nod (.lst ([V.int rz] ++ [V.int y]))
          have gM := go_own (g7.trans hh7.go) ho e8 ([V.int rz] ++ [V.int y])
          have eM := upd_same (H := upd (upd (upd H5 o (.lst [V.int rz])) h (.lst [.ref d, .int ((n5 + 1 : Nat) : Int)])) h (.lst [.ref d, .int ((n5 + 1 + 1 : Nat) : Int)])) (a := o) (o := .lst ([rz, y].map V.int))
          obtain ⟨nM, hnM⟩ : ∃ nM, nM = n5 + 1 + 1 := ⟨_, rfl⟩
          obtain ⟨ox, hox⟩ : ∃ ox : List Int, ox = [rz, y] := ⟨_, rfl⟩
          rw [← hox] at eM
          have ev : [V.int rz] ++ [V.int y] = ox.map V.int := by rw [hox]; rfl
          rw [ev] at hhM gM ⊢
          generalize upd (upd (upd (upd H5 o (.lst [V.int rz])) h (.lst [.ref d, .int ((n5 + 1 : Nat) : Int)])) h (.lst [.ref d, .int ((n5 + 1 + 1 : Nat) : Int)])) o (.lst (ox.map V.int)) = HM at hhM gM eM ⊢
          rw [← hnM] at hhM
          refine ⟨_, rfl, h, d, ds, nM, 6, rfl, hhM.1, hhM.2, by omega, by omega, fun z z0 z3 => ⟨_, _, rfl, rfl, _, rfl, ?_⟩⟩
          have hhN := hhM.next
          have gN := gM.trans hhM.go
          have eN := hhM.go.out _ _ noh eM
          refine ite2 (fun c => ?_) (fun c => ?_)
          · refine ⟨_, rfl, _, rfl, la, _, _, _, rfl, rfl, (g5.trans gN).seqT hla, at_of (j := i) (by omega) la_i, ls[i], rfl, by omega, by omega, fun o2 ho2 => ?_⟩
            have no2 : o2 ≠ h := (ne_of_none hhN.1 ho2).symm
            have np2 : o2 ≠ p := (ne_of_none (gN.out _ _ nph e5) ho2).symm
            refine itr_walk (lo := 0) (n := ls[i].toNat) (fun j H10 => Same (upd HM h (.lst [.ref d, .int ((nM + 1 : Nat) : Int)])) H10 ∧ ∃ ys : List Int, H10 o2 = some (.lst (ys.map V.int)) ∧ ys.length = j) ⟨same_new ho2 _, [], upd_same, rfl⟩ ?_ ?_
            · rintro j H10 hj ⟨s10, ys, ey, leny⟩
              refine ⟨rfl, ?_⟩
              exact ⟨_, rfl, _, ey, lt_small (by rw [List.length_map]; omega), same_own s10 ho2 _, ys ++ [0 + (j : Int)], by rw [upd_same, List.map_append]; rfl, by rw [List.length_append, leny]; rfl⟩
            · rintro H10 ⟨s10, ys, ey, leny⟩
              obtain ⟨q1, q2, q3⟩ := fin o2 ys H10 _ (hhN.same s10) (gN.trans s10.go) no2 np2 ey
              exact ⟨_, rfl, .inl ⟨rfl, _, SqL.of q1⟩, _, rfl, p, acc, _, rfl, rfl, q1, q2, q3⟩
          · obtain ⟨q1, q2, q3⟩ := fin o ox _ _ hhN gN noh nop eN
            exact ⟨_, rfl, .inl ⟨rfl, _, SqL.of q1⟩, _, rfl, p, acc, _, rfl, rfl, q1, q2, q3⟩
        · have hhM := hh7
          have gM := g7
          obtain ⟨nM, hnM⟩ : ∃ nM, nM = n5 + 1 := ⟨_, rfl⟩
          obtain ⟨ox, hox⟩ : ∃ ox : List Int, ox = [rz] := ⟨_, rfl⟩
          have eM := e7
          have ev : [V.int rz] = ox.map V.int := by rw [hox]; rfl
          rw [ev] at hhM gM eM ⊢
          generalize upd (upd H5 o (.lst (ox.map V.int))) h (.lst [.ref d, .int ((n5 + 1 : Nat) : Int)]) = HM at hhM gM eM ⊢
          rw [← hnM] at hhM
          refine ⟨_, rfl, h, d, ds, nM, 6, rfl, hhM.1, hhM.2, by omega, by omega, fun z z0 z3 => ⟨_, _, rfl, rfl, _, rfl, ?_⟩⟩
          have hhN := hhM.next
          have gN := gM.trans hhM.go
          have eN := hhM.go.out _ _ noh eM
          refine ite2 (fun c => ?_) (fun c => ?_)
          · refine ⟨_, rfl, _, rfl, la, _, _, _, rfl, rfl, (g5.trans gN).seqT hla, at_of (j := i) (by omega) la_i, ls[i], rfl, by omega, by omega, fun o2 ho2 => ?_⟩
            have no2 : o2 ≠ h := (ne_of_none hhN.1 ho2).symm
            have np2 : o2 ≠ p := (ne_of_none (gN.out _ _ nph e5) ho2).symm
            refine itr_walk (lo := 0) (n := ls[i].toNat) (fun j H10 => Same (upd HM h (.lst [.ref d, .int ((nM + 1 : Nat) : Int)])) H10 ∧ ∃ ys : List Int, H10 o2 = some (.lst (ys.map V.int)) ∧ ys.length = j) ⟨same_new ho2 _, [], upd_same, rfl⟩ ?_ ?_
            · rintro j H10 hj ⟨s10, ys, ey, leny⟩
              refine ⟨rfl, ?_⟩
              exact ⟨_, rfl, _, ey, lt_small (by rw [List.length_map]; omega), same_own s10 ho2 _, ys ++ [0 + (j : Int)], by rw [upd_same, List.map_append]; rfl, by rw [List.length_append, leny]; rfl⟩
            · rintro H10 ⟨s10, ys, ey, leny⟩
              obtain ⟨q1, q2, q3⟩ := fin o2 ys H10 _ (hhN.same s10) (gN.trans s10.go) no2 np2 ey
              exact ⟨_, rfl, .inl ⟨rfl, _, SqL.of q1⟩, _, rfl, p, acc, _, rfl, rfl, q1, q2, q3⟩
          · obtain ⟨q1, q2, q3⟩ := fin o ox _ _ hhN gN noh nop eN
            exact ⟨_, rfl, .inl ⟨rfl, _, SqL.of q1⟩, _, rfl, p, acc, _, rfl, rfl, q1, q2, q3⟩
      · rintro σ H5 ⟨av, ov, n5, acc, raw, rfl, hh5, g5, t5, e5, hA, len5⟩
        refine ⟨_, rfl, ?_⟩
        exact k p H5 n5 acc raw g5 hh5 nph e5 (hA.imp fun a xs z => z.2) (by rw [len5, List.length_map]; omega)
  · obtain ⟨rv, hrv0⟩ : ∃ rv, rv = t := ⟨_, rfl⟩
    obtain ⟨rn, hrn0⟩ : ∃ rn, rn = ns := ⟨_, rfl⟩
    have hrv : H2 rv = some (.tup (rn.map V.int)) := by
      obtain ⟨t', e, q⟩ := rt2
      cases e
      rw [hrv0, hrn0]
      exact q
    rw [← hrv0]
    have rl : rn.length = ls.length := by rw [hrn0, len]
    have hhX := hh2
    have gX : Go (· = h) H H2 := u0.go.trans g2
    have tX : TupsStay H2 H2 := TupsStay.refl _
    have eX := ep2
    refine ⟨_, rfl, la, _, rfl, .inr (gX.seqT hla), (((ls.map V.int).length : Nat) : Int), rfl, by omega, by rw [List.length_map]; omega, for_range (lo := 0) (n := (((ls.map V.int).length : Nat) : Int).toNat) (fun i σ H5 => ∃ (av ov : Option V) (n5 : Nat) (acc : List V) (raw : List (List Int)), σ = [some (.ref h), some (.ref ra), some (.ref la), some (.ref p), some (.ref rv), av, ov, none, none] ∧
      Hand H5 h d ds n5 ∧ Go (· = h) H H5 ∧ TupsStay H2 H5 ∧ H5 p = some (.lst acc) ∧ SLs (fun a xs => a ≠ p ∧ Own h H5 a xs) acc raw ∧ raw.length = i) ⟨none, none, _, [], [], rfl, hhX, gX, tX, eX, .nil, rfl⟩ ?_ ?_⟩
    · rintro i σ H5 hi ⟨av, ov, n5, acc, raw, rfl, hh5, g5, t5, e5, hA, len5⟩
      have il : i < ls.length := by
        rw [List.length_map] at hi
        omega
      have hm : ls[i]? = some ls[i] := List.getElem?_eq_getElem il
      have m4 := lab _ (List.getElem_mem il)
      have hr5 : H5 rv = some (.tup (rn.map V.int)) := t5 _ _ (.inl ⟨_, rfl⟩) hrv
      have la_i : (ls.map V.int)[i]? = some (V.int ls[i]) := by rw [List.getElem?_map, hm]; rfl
      obtain ⟨rz, hrz⟩ : ∃ rz, (rn.map V.int)[i]? = some (V.int rz) := ⟨rn[i], by simp⟩
      have fin : ∀ (o : Addr) (xs : List Int) (H9 : Hp) (n9 : Nat), Hand H9 h d ds n9 → Go (· = h) H5 H9 → o ≠ h → o ≠ p → H9 o = some (.lst (xs.map V.int)) → H9 p = some (.lst acc) ∧ acc.length < sizeLine ∧ ∃ (av ov : Option V) (n5 : Nat) (acc' : List V) (raw : List (List Int)), [some (V.ref h), some (.ref ra), some (.ref la), some (.ref p), some (.ref rv), some (.int (0 + (i : Int))), some (.ref o), none, none] = [some (V.ref h), some (.ref ra), some (.ref la), some (.ref p), some (.ref rv), av, ov, none, none] ∧
          Hand (upd H9 p (.lst (acc ++ [.ref o]))) h d ds n5 ∧ Go (· = h) H (upd H9 p (.lst (acc ++ [.ref o]))) ∧ TupsStay H2 (upd H9 p (.lst (acc ++ [.ref o]))) ∧ (upd H9 p (.lst (acc ++ [.ref o]))) p = some (.lst acc') ∧ SLs (fun a xs => a ≠ p ∧ Own h (upd H9 p (.lst (acc ++ [.ref o]))) a xs) acc' raw ∧ raw.length = i + 1 := fun o xs H9 n9 hh9 g9 no np eo => by
        have e9 := g9.out _ _ nph e5
        exact ⟨e9, lt_small (by rw [hA.len]; omega), _, _, n9, acc ++ [.ref o], raw ++ [xs], rfl, hh9.off nph npd _, go_own (g5.trans g9) hp e9 _, t5.trans (g9.tups.trans (tups_lst e9)), upd_same, SLs.app (hA.imp fun a xs z => ⟨z.1, z.2.1, (upd_ne z.1).trans (g9.out _ _ z.2.1 z.2.2)⟩) (.cons ⟨np, no, (upd_ne np).trans eo⟩ .nil), by rw [List.length_append, len5]; rfl⟩
      refine ⟨_, rfl, _, rfl, rv, _, _, _, rfl, rfl, SqT.of hr5, at_of (j := i) (by omega) hrz, (by show 1 ≤ sizeLine; decide), fun o ho => ?_⟩
      have u6 := same_new ho (.lst [V.int rz])
      have hh6 := hh5.same u6
      have noh : o ≠ h := (ne_of_none hh5.1 ho).symm
      have nod : o ≠ d := (ne_of_none hh5.2 ho).symm
      have nop : o ≠ p := (ne_of_none e5 ho).symm
      refine ⟨_, rfl, h, d, ds, n5, 3, rfl, hh6.1, hh6.2, by omega, by omega, fun z z0 z3 => ⟨_, _, rfl, rfl, _, rfl, ?_⟩⟩
      have hh7 := hh6.next
      have e7 := hh6.go.out _ _ noh (upd_same (H := H5) (a := o) (o := .lst [V.int rz]))
      have g7 := u6.go.trans hh6.go
      refine ite2 (fun c => ?_) (fun c => ?_)
      · refine ⟨_, rfl, .inl ⟨rfl, _, SqL.of e7⟩, _, rfl, _, rfl, _, rfl, la, _, _, _, rfl, rfl, (g5.trans g7).seqT hla, at_of (j := i) (by omega) la_i, h, d, ds, n5 + 1, ls[i], rfl, hh7.1, hh7.2, by omega, by omega, fun y y0 ym => ?_⟩
        have e8 := hh7.go.out _ _ noh e7
        refine ⟨o, _, _, rfl, rfl, e8, (by show 1 < sizeLine; decide), ?_⟩
        have hhM := hh7.next.off noh nod (.lst ([V.int rz] ++ [V.int y]))
        have gM := go_own (g7.trans hh7.go) ho e8 ([V.int rz] ++ [V.int y])
        have eM := upd_same (H := upd (upd (upd H5 o (.lst [V.int rz])) h (.lst [.ref d, .int ((n5 + 1 : Nat) : Int)])) h (.lst [.ref d, .int ((n5 + 1 + 1 : Nat) : Int)])) (a := o) (o := .lst ([rz, y].map V.int))
        obtain ⟨nM, hnM⟩ : ∃ nM, nM = n5 + 1 + 1 := ⟨_, rfl⟩
        obtain ⟨ox, hox⟩ : ∃ ox : List Int, ox = [rz, y] := ⟨_, rfl⟩
        rw [← hox] at eM
        have ev : [V.int rz] ++ [V.int y] = ox.map V.int := by rw [hox]; rfl
        rw [ev] at hhM gM ⊢
        generalize upd (upd (upd (upd H5 o (.lst [V.int rz])) h (.lst [.ref d, .int ((n5 + 1 : Nat) : Int)])) h (.lst [.ref d, .int ((n5 + 1 + 1 : Nat) : Int)])) o (.lst (ox.map V.int)) = HM at hhM gM eM ⊢
        rw [← hnM] at hhM
        refine ⟨_, rfl, h, d, ds, nM, 6, rfl, hhM.1, hhM.2, by omega, by omega, fun z z0 z3 => ⟨_, _, rfl, rfl, _, rfl, ?_⟩⟩
        have hhN := hhM.next
        have gN := gM.trans hhM.go
        have eN := hhM.go.out _ _ noh eM
        refine ite2 (fun c => ?_) (fun c => ?_)
        · refine ⟨_, rfl, _, rfl, la, _, _, _, rfl, rfl, (g5.trans gN).seqT hla, at_of (j := i) (by omega) la_i, ls[i], rfl, by omega, by omega, fun o2 ho2 => ?_⟩
          have no2 : o2 ≠ h := (ne_of_none hhN.1 ho2).symm
          have np2 : o2 ≠ p := (ne_of_none (gN.out _ _ nph e5) ho2).symm
          refine itr_walk (lo := 0) (n := ls[i].toNat) (fun j H10 => Same (upd HM h (.lst [.ref d, .int ((nM + 1 : Nat) : Int)])) H10 ∧ ∃ ys : List Int, H10 o2 = some (.lst (ys.map V.int)) ∧ ys.length = j) ⟨same_new ho2 _, [], upd_same, rfl⟩ ?_ ?_
          · rintro j H10 hj ⟨s10, ys, ey, leny⟩
            refine ⟨rfl, ?_⟩
            exact ⟨_, rfl, _, ey, lt_small (by rw [List.length_map]; omega), same_own s10 ho2 _, ys ++ [0 + (j : Int)], by rw [upd_same, List.map_append]; rfl, by rw [List.length_append, leny]; rfl⟩
          · rintro H10 ⟨s10, ys, ey, leny⟩
            obtain ⟨q1, q2, q3⟩ := fin o2 ys H10 _ (hhN.same s10) (gN.trans s10.go) no2 np2 ey
            exact ⟨_, rfl, .inl ⟨rfl, _, SqL.of q1⟩, _, rfl, p, acc, _, rfl, rfl, q1, q2, q3⟩
        · obtain ⟨q1, q2, q3⟩ := fin o ox _ _ hhN gN noh nop eN
          exact ⟨_, rfl, .inl ⟨rfl, _, SqL.of q1⟩, _, rfl, p, acc, _, rfl, rfl, q1, q2, q3⟩
      · have hhM := hh7
        have gM := g7
        obtain ⟨nM, hnM⟩ : ∃ nM, nM = n5 + 1 := ⟨_, rfl⟩
        obtain ⟨ox, hox⟩ : ∃ ox : List Int, ox = [rz] := ⟨_, rfl⟩
        have eM := e7
        have ev : [V.int rz] = ox.map V.int := by rw [hox]; rfl
        rw [ev] at hhM gM eM ⊢
        generalize upd (upd H5 o (.lst (ox.map V.int))) h (.lst [.ref d, .int ((n5 + 1 : Nat) : Int)]) = HM at hhM gM eM ⊢
        rw [← hnM] at hhM
        refine ⟨_, rfl, h, d, ds, nM, 6, rfl, hhM.1, hhM.2, by omega, by omega, fun z z0 z3 => ⟨_, _, rfl, rfl, _, rfl, ?_⟩⟩
        have hhN := hhM.next
        have gN := gM.trans hhM.go
        have eN := hhM.go.out _ _ noh eM
        refine ite2 (fun c => ?_) (fun c => ?_)
        · refine ⟨_, rfl, _, rfl, la, _, _, _, rfl, rfl, (g5.trans gN).seqT hla, at_of (j := i) (by omega) la_i, ls[i], rfl, by omega, by omega, fun o2 ho2 => ?_⟩
          have no2 : o2 ≠ h := (ne_of_none hhN.1 ho2).symm
          have np2 : o2 ≠ p := (ne_of_none (gN.out _ _ nph e5) ho2).symm
          refine itr_walk (lo := 0) (n := ls[i].toNat) (fun j H10 => Same (upd HM h (.lst [.ref d, .int ((nM + 1 : Nat) : Int)])) H10 ∧ ∃ ys : List Int, H10 o2 = some (.lst (ys.map V.int)) ∧ ys.length = j) ⟨same_new ho2 _, [], upd_same, rfl⟩ ?_ ?_
          · rintro j H10 hj ⟨s10, ys, ey, leny⟩
            refine ⟨rfl, ?_⟩
            exact ⟨_, rfl, _, ey, lt_small (by rw [List.length_map]; omega), same_own s10 ho2 _, ys ++ [0 + (j : Int)], by rw [upd_same, List.map_append]; rfl, by rw [List.length_append, leny]; rfl⟩
          · rintro H10 ⟨s10, ys, ey, leny⟩
            obtain ⟨q1, q2, q3⟩ := fin o2 ys H10 _ (hhN.same s10) (gN.trans s10.go) no2 np2 ey
            exact ⟨_, rfl, .inl ⟨rfl, _, SqL.of q1⟩, _, rfl, p, acc, _, rfl, rfl, q1, q2, q3⟩
        · obtain ⟨q1, q2, q3⟩ := fin o ox _ _ hhN gN noh nop eN
          exact ⟨_, rfl, .inl ⟨rfl, _, SqL.of q1⟩, _, rfl, p, acc, _, rfl, rfl, q1, q2, q3⟩
    · rintro σ H5 ⟨av, ov, n5, acc, raw, rfl, hh5, g5, t5, e5, hA, len5⟩
      refine ⟨_, rfl, ?_⟩
      exact k p H5 n5 acc raw g5 hh5 nph e5 (hA.imp fun a xs z => z.2) (by rw [len5, List.length_map]; omega)
end
section
variable {P : Program} {w : World} {K : PySem.W.Frag} {mg : Str → Option Value} {base : Heap}
def MixO (h : Addr) (H : Hp) (a : Addr) (xs : List V) : Prop := (a ≠ h ∧ H a = some (.lst xs)) ∨ H a = some (.tup xs)
theorem MixO.stay {h a : Addr} {H H' : Hp} {xs : List V} (g : Go (· = h) H H') (m : MixO h H a xs) : MixO h H' a xs := by
  rcases m with ⟨n, e⟩ | e
  · exact .inl ⟨n, g.out _ _ n e⟩
  · exact .inr (g.tups _ _ (.inl ⟨_, rfl⟩) e)
theorem MixO.mix {h a : Addr} {H : Hp} {xs : List V} (m : MixO h H a xs) : Mix K H a xs := by
  rcases m with ⟨_, e⟩ | e
  · exact .inl (SqL.of e)
  · exact .inr (SqT.of e)
theorem mix_dn {h : Addr} {H : Hp} : ∀ {sv : List V} {shn : List (List Int)}, SLs (MixO h H) sv shn → (∀ s ∈ shn, s.length ≤ 8 ∧ ∀ z ∈ s, 0 ≤ z ∧ z < 4) → ∃ dds, DnAll (· = h) K H sv dds ∧ dds.length = shn.length ∧ ∀ d ∈ dds, Sized 8 1 d
  | _, _, .nil, _ => ⟨[], .nil, rfl, fun d hd => by cases hd⟩
  | _, _, .cons (a := a) (r := r) m t, f => by
    obtain ⟨dds, h1, h2, h3⟩ := mix_dn t fun s hs => f s (List.mem_cons_of_mem _ hs)
    obtain ⟨r8, rz⟩ := f r List.mem_cons_self
    have allI : ∀ d ∈ r.map PyData.int, Sized 0 0 d := fun d hd => by
      obtain ⟨z, hz, rfl⟩ := List.mem_map.mp hd
      have := rz z hz
      exact sized_int (Nat.lt_of_lt_of_le (show z.natAbs < 2000 by omega) (by decide))
    rcases m with ⟨n, e⟩ | e
    · refine ⟨.list (r.map PyData.int) :: dds, .cons (.lst n e (DtAll.ints r).dn) h1, by rw [List.length_cons, h2]; rfl, fun d hd => ?_⟩
      rcases List.mem_cons.mp hd with rfl | hd
      · exact Sized.more (m' := 8) (h' := 1) (sized_lst allI) (by rw [List.length_map]; omega) (Nat.le_refl _)
      · exact h3 d hd
    · refine ⟨.tuple (r.map PyData.int) :: dds, .cons (.tup (SqT.of e) (DtAll.ints r).dn) h1, by rw [List.length_cons, h2]; rfl, fun d hd => ?_⟩
      rcases List.mem_cons.mp hd with rfl | hd
      · exact Sized.more (m' := 8) (h' := 1) (sized_tup allI) (by rw [List.length_map]; omega) (Nat.le_refl _)
      · exact h3 d hd
theorem mem_ins {ms : List Int} {k : Nat} {x z : Int} : z ∈ ms.take k ++ [x] ++ ms.drop k ↔ z ∈ ms ∨ z = x := by
  have e := List.take_append_drop k ms
  constructor
  · intro h
    rcases List.mem_append.mp h with h | h
    · rcases List.mem_append.mp h with h | h
      · exact .inl (List.mem_of_mem_take h)
      · exact .inr (List.mem_singleton.mp h)
    · exact .inl (List.mem_of_mem_drop h)
  · intro h
    rcases h with h | h
    · rw [← e] at h
      rcases List.mem_append.mp h with h | h
      · exact List.mem_append.mpr (.inl (List.mem_append.mpr (.inl h)))
      · exact List.mem_append.mpr (.inr h)
    · exact List.mem_append.mpr (.inl (List.mem_append.mpr (.inr (List.mem_singleton.mpr h))))
theorem ins_len {ms : List Int} {k : Nat} {x : Int} : (ms.take k ++ [x] ++ ms.drop k).length = ms.length + 1 := by
  rw [List.length_append, List.length_append, List.length_take, List.length_drop]
  show min k ms.length + 1 + (ms.length - k) = _
  omega
theorem ins_map {ms : List Int} {k : Nat} {x : Int} : (ms.map V.int).take k ++ [V.int x] ++ (ms.map V.int).drop k = (ms.take k ++ [x] ++ ms.drop k).map V.int := by
  rw [List.map_append, List.map_append, List.map_take, List.map_drop]
  rfl
/-- what is shown for such sets -/
def Shows (shn plain : List (List Int)) : Prop := shn.length = plain.length ∧ ∀ (i : Nat) (s p : List Int), shn[i]? = some s → plain[i]? = some p → s.length ≤ 8 ∧ ∀ z, z ∈ s ↔ z ∈ p
def spLShown (K : PySem.W.Frag) : Sp := fun vs H Q _ => ∃ (h d : Addr) (ds : List Int) (n : Nat) (pl : Addr) (pv : List V) (plain : List (List Int)), vs = [.ref h, .ref pl] ∧ Hand H h d ds n ∧ pl ≠ h ∧ H pl = some (.lst pv) ∧ SLs (Own h H) pv plain ∧ (∀ s ∈ plain, s.length ≤ 4) ∧ plain.length ≤ 4 ∧
  ∀ (o : Addr) (H' : Hp) (n' : Nat) (sv : List V) (shn : List (List Int)), Go (· = h) H H' → Hand H' h d ds n' → MixO h H' o sv → SLs (MixO h H') sv shn → Shows shn plain → Q (.ref o) H'
set_option maxHeartbeats 2000000 in
theorem ok_lshown {f : Addr} {fd : FuncData} (B : Blt mg) (g_law_take : Has P w K mg base CX0 1 "_law_take" ["hand", "many"] (spTake K)) (F : Fun K "_law_shown" "_law_shown" s_law_shown f fd) : FnOk P w K mg base CX0 2 f fd ["hand", "sets"] (spLShown K) := by
  have sc : FnScope ["hand", "sets", "out", "one", "made", "label"] ["hand", "sets"] (defScope s_law_shown) := ⟨rfl, rfl, rfl, by decide +kernel, rfl, by decide +kernel, by decide +kernel⟩
  refine F.ok sc (fun vs H Q E h => ?_) (fun cdv A outer s H vs Q E hr h => ?_)
  · obtain ⟨_, _, _, _, _, _, _, rfl, _⟩ := h
    rfl
  obtain ⟨h, d, ds, n0, pl, pv_, plain, rfl, hh, npl, hpl, hpv, s4, p4, k⟩ := h
  refine ⟨_, (pss_cons (ps_set (i := 2) sc.nd rfl (Or.inl rfl) (pe_lst pa_nil))
    (pss_cons (ps_for PassesOwn.never rfl (pi_list (pv 1)) (pg_name (i := 3) sc.nd rfl (Or.inl rfl))
      (pss_cons (ps_set (i := 4) sc.nd rfl (Or.inl rfl) (pe_lst pa_nil))
      (pss_cons (ps_for PassesOwn.never rfl (pi_list (pv 3)) (pg_name (i := 5) sc.nd rfl (Or.inl rfl))
        (pss_cons (ps_expr (pe_bm PySem.F.plainAttrs_list PySem.F.slot_list_insert PySem.F.type_list_insert mt_insert (pv 4) (pa_cons (pc g_law_take hr (pa_cons (pv 0) (pa_cons (pe_op op_add (pe_callB call_len_seq (by rfl) B.len (by decide +kernel) (pa_cons (pv 4) pa_nil)) pe_int) pa_nil))) (pa_cons (pv 5) pa_nil))))
        (pss_one (ps_if (pt_cmpR op_eqi (pc g_law_take hr (pa_cons (pv 0) (pa_cons pe_int pa_nil))) pe_int (nomark _))
          (pss_one (ps_expr (pe_bm PySem.F.plainAttrs_list PySem.F.slot_list_insert PySem.F.type_list_insert mt_insert (pv 4) (pa_cons (pc g_law_take hr (pa_cons (pv 0) (pa_cons (pe_op op_add (pe_callB call_len_seq (by rfl) B.len (by decide +kernel) (pa_cons (pv 4) pa_nil)) pe_int) pa_nil))) (pa_cons (pv 5) pa_nil)))))
          pss_nil))))
      (pss_cons (ps_if (pt_cmpR op_eqi (pc g_law_take hr (pa_cons (pv 0) (pa_cons pe_int pa_nil))) pe_int (nomark _))
        (pss_one (ps_set (i := 4) sc.nd rfl (Or.inl rfl) (pe_callTy call_tuple_of (by rfl) B.tuple (by decide +kernel) (pa_cons (pv 4) pa_nil))))
        pss_nil)
      (pss_one (ps_expr (pe_bm PySem.F.plainAttrs_list PySem.F.slot_list_append PySem.F.type_list_append mt_append (pv 2) (pa_cons (pv 4) pa_nil))))))))
    (pss_cons (ps_if (pt_cmpR op_eqi (pc g_law_take hr (pa_cons (pv 0) (pa_cons pe_int pa_nil))) pe_int (nomark _))
      (pss_one (ps_ret (pe_callTy call_tuple_of (by rfl) B.tuple (by decide +kernel) (pa_cons (pv 2) pa_nil))))
      pss_nil)
    (pss_one (ps_ret (pv 2)))))), ?_⟩
  refine ⟨Nat.zero_le _, fun o ho => ?_⟩
  have u0 := same_new ho (.lst [])
  obtain ⟨noh, nod⟩ := hand_out hh ho
  have hh0 := hh.same u0
  have npo : pl ≠ o := ne_of_none hpl ho
  refine ⟨_, rfl, pl, rfl, ⟨_, SqL.of (u0 _ _ hpl)⟩, for_list (K := K) (a := pl) (xs := pv_) (fun i σ H1 => ∃ (ov mv lv : Option V) (n1 : Nat) (acc : List V) (shn : List (List Int)), σ = [some (.ref h), some (.ref pl), some (.ref o), ov, mv, lv] ∧
      Hand H1 h d ds n1 ∧ Go (· = h) H H1 ∧ H1 o = some (.lst acc) ∧ SLs (fun a xs => a ≠ o ∧ MixO h H1 a xs) acc shn ∧ shn.length = i ∧ ∀ (k : Nat) (s p : List Int), shn[k]? = some s → plain[k]? = some p → s.length ≤ 8 ∧ ∀ z, z ∈ s ↔ z ∈ p)
    ⟨none, none, none, n0, [], [], rfl, hh0, u0.go, upd_same, .nil, rfl, fun k s p e => by simp at e⟩ (fun i σ H1 _ ⟨_, _, _, _, _, _, _, _, g, _⟩ => SqL.of (g.out _ _ npl hpl)) ?_ ?_⟩
  · rintro i x σ H1 hi ⟨ov, mv, lv, n1, acc, shn, rfl, hh1, g1, e1, hA, len1, mean⟩
    obtain ⟨pa, p, rfl, hp, hpa⟩ := hpv.of hi
    have il : i < plain.length := (List.getElem?_eq_some_iff.mp hp).1
    have few := s4 p (List.mem_of_getElem? hp)
    refine ⟨Nat.zero_le _, fun m hm => ?_⟩
    have u1 := same_new hm (.lst [])
    obtain ⟨nmh, nmd⟩ := hand_out hh1 hm
    have nmo : m ≠ o := (ne_of_none e1 hm).symm
    have hh2 := hh1.same u1
    have nmp : pa ≠ m := ne_of_none (g1.out _ _ hpa.1 hpa.2) hm
    refine ⟨_, rfl, pa, rfl, ⟨_, SqL.of (u1 _ _ (g1.out _ _ hpa.1 hpa.2))⟩, for_list (K := K) (a := pa) (xs := p.map V.int) (fun j σ H2 => ∃ (lv : Option V) (n2 : Nat) (ms : List Int), σ = [some (.ref h), some (.ref pl), some (.ref o), some (.ref pa), some (.ref m), lv] ∧
        Hand H2 h d ds n2 ∧ Go (· = h) H1 H2 ∧ H2 m = some (.lst (ms.map V.int)) ∧ ms.length ≤ 2 * j ∧ ∀ z, z ∈ ms ↔ z ∈ p.take j)
      ⟨lv, n1, [], rfl, hh2, u1.go, upd_same, Nat.zero_le _, fun z => by rw [List.take_zero]⟩ (fun j σ H2 _ ⟨_, _, _, _, _, g, _⟩ => SqL.of (g.out _ _ hpa.1 (g1.out _ _ hpa.1 hpa.2))) ?_ ?_⟩
    · rintro j y σ H2 hj ⟨lv, n2, ms, rfl, hh3, g2, e2, len2, mem2⟩
      obtain ⟨z, hz, rfl⟩ := item_of hj
      have jl : j < p.length := (List.getElem?_eq_some_iff.mp hz).1
      refine ⟨_, rfl, .inl ⟨rfl, _, SqL.of e2⟩, _, rfl, _, rfl, m, _, rfl, .inl (SqL.of e2), _, _, rfl, rfl, h, d, ds, n2, _, rfl, hh3.1, hh3.2, by omega, by rw [List.length_map]; omega, fun q q0 qm => ?_⟩
      have e3 := hh3.go.out _ _ nmh e2
      rw [List.length_map] at qm
      refine ⟨_, rfl, m, _, q, .int z, rfl, rfl, e3, lt_small (by rw [List.length_map]; omega), q0, by omega, ?_⟩
      rw [ins_map]
      have hh4 := hh3.next.off nmh nmd (.lst ((ms.take q.toNat ++ [z] ++ ms.drop q.toNat).map V.int))
      have g4 := go_own (g2.trans hh3.go) hm e3 ((ms.take q.toNat ++ [z] ++ ms.drop q.toNat).map V.int)
      have e4 := upd_same (H := upd H2 h (.lst [.ref d, .int ((n2 + 1 : Nat) : Int)])) (a := m) (o := .lst ((ms.take q.toNat ++ [z] ++ ms.drop q.toNat).map V.int))
      generalize upd (upd H2 h (.lst [.ref d, .int ((n2 + 1 : Nat) : Int)])) m (.lst ((ms.take q.toNat ++ [z] ++ ms.drop q.toNat).map V.int)) = H4 at hh4 g4 e4 ⊢
      have l4 := ins_len (ms := ms) (k := q.toNat) (x := z)
      have m4 : ∀ y, y ∈ ms.take q.toNat ++ [z] ++ ms.drop q.toNat ↔ y ∈ p.take (j + 1) := fun y => by
        rw [mem_ins, mem2 y, take_more hz, List.mem_append, List.mem_singleton]
      generalize ms.take q.toNat ++ [z] ++ ms.drop q.toNat = ms4 at hh4 g4 e4 l4 m4 ⊢
      refine ⟨_, rfl, h, d, ds, n2 + 1, 4, rfl, hh4.1, hh4.2, by omega, by omega, fun t t0 t4 => ⟨_, _, rfl, rfl, _, rfl, ?_⟩⟩
      have hh5 := hh4.next
      have e5 := hh4.go.out _ _ nmh e4
      refine ite2 (fun c => ?_) (fun c => ?_)
      · refine ⟨_, rfl, .inl ⟨rfl, _, SqL.of e5⟩, _, rfl, _, rfl, m, _, rfl, .inl (SqL.of e5), _, _, rfl, rfl, h, d, ds, _, _, rfl, hh5.1, hh5.2, by omega, by rw [List.length_map]; omega, fun q2 q20 q2m => ?_⟩
        have e6 := hh5.go.out _ _ nmh e5
        rw [List.length_map] at q2m
        refine ⟨_, rfl, m, _, q2, .int z, rfl, rfl, e6, lt_small (by rw [List.length_map]; omega), q20, by omega, ?_⟩
        rw [ins_map]
        refine ⟨_, _, _, rfl, hh5.next.off nmh nmd _, go_own (g4.trans (hh4.go.trans hh5.go)) hm e6 _, upd_same, by rw [ins_len]; omega, fun y => ?_⟩
        rw [mem_ins, m4 y]
        constructor
        · rintro (a | a)
          · exact a
          · rw [a, take_more hz]
            exact List.mem_append.mpr (.inr (List.mem_singleton.mpr rfl))
        · exact .inl
      · exact ⟨_, _, ms4, rfl, hh5, g4.trans hh4.go, e5, by omega, m4⟩
    · rintro σ H2 ⟨lv, n2, ms, rfl, hh3, g2, e2, len2, mem2⟩
      rw [List.length_map] at len2 mem2
      rw [List.take_of_length_le (Nat.le_refl _)] at mem2
      refine ⟨_, rfl, h, d, ds, n2, 2, rfl, hh3.1, hh3.2, by omega, by omega, fun t t0 t2 => ⟨_, _, rfl, rfl, _, rfl, ?_⟩⟩
      have hh4 := hh3.next
      have e4 := hh3.go.out _ _ nmh e2
      have g4 := g2.trans hh3.go
      have fin : ∀ (a : Addr) (H9 : Hp), Hand H9 h d ds (n2 + 1) → Go (· = h) H1 H9 → a ≠ o → MixO h H9 a (ms.map V.int) → H9 o = some (.lst acc) ∧ acc.length < sizeLine ∧ ∃ (ov mv lv' : Option V) (n1 : Nat) (acc' : List V) (shn : List (List Int)), [some (V.ref h), some (.ref pl), some (.ref o), some (.ref pa), some (.ref a), lv] = [some (V.ref h), some (.ref pl), some (.ref o), ov, mv, lv'] ∧
          Hand (upd H9 o (.lst (acc ++ [.ref a]))) h d ds n1 ∧ Go (· = h) H (upd H9 o (.lst (acc ++ [.ref a]))) ∧ (upd H9 o (.lst (acc ++ [.ref a]))) o = some (.lst acc') ∧ SLs (fun b xs => b ≠ o ∧ MixO h (upd H9 o (.lst (acc ++ [.ref a]))) b xs) acc' shn ∧ shn.length = i + 1 ∧ ∀ (k : Nat) (s p : List Int), shn[k]? = some s → plain[k]? = some p → s.length ≤ 8 ∧ ∀ z, z ∈ s ↔ z ∈ p := fun a H9 hh9 g9 nao ma => by
        have e9 := g9.out _ _ noh e1
        have put : ∀ {b : Addr} {xs : List V}, b ≠ o → MixO h H9 b xs → MixO h (upd H9 o (.lst (acc ++ [.ref a]))) b xs := fun nb mb => by
          rcases mb with ⟨q, e⟩ | e
          · exact .inl ⟨q, (upd_ne nb).trans e⟩
          · exact .inr ((upd_ne nb).trans e)
        refine ⟨e9, lt_small (by rw [hA.len]; omega), _, _, _, n2 + 1, acc ++ [.ref a], shn ++ [ms], rfl, hh9.off noh nod _, go_own (g1.trans g9) ho e9 _, upd_same, SLs.app (hA.imp fun b xs z => ⟨z.1, put z.1 (z.2.stay g9)⟩) (.cons ⟨nao, put nao ma⟩ .nil), by rw [List.length_append, len1]; rfl, fun k s p' hs hp' => ?_⟩
        by_cases hk : k < shn.length
        · rw [List.getElem?_append_left hk] at hs
          exact mean k s p' hs hp'
        · have k2 := (List.getElem?_eq_some_iff.mp hs).1
          rw [List.length_append] at k2
          have ke : k = i := by
            simp only [List.length_singleton] at k2
            omega
          subst ke
          rw [hp] at hp'
          cases hp'
          rw [List.getElem?_append_right (by omega), len1, Nat.sub_self] at hs
          cases hs
          exact ⟨by omega, mem2⟩
      refine ite2 (fun c => ?_) (fun c => ?_)
      · refine ⟨_, rfl, m, _, rfl, .inl ⟨SqL.of e4, fun t1 ht1 => ?_⟩⟩
        have u5 := same_new ht1 (.tup (ms.map V.int))
        have nto : t1 ≠ o := (ne_of_none (g4.out _ _ noh e1) ht1).symm
        obtain ⟨q1, q2, q3⟩ := fin t1 _ (hh4.same u5) (g4.trans u5.go) nto (.inr upd_same)
        exact ⟨_, rfl, .inl ⟨rfl, _, SqL.of q1⟩, _, rfl, o, acc, _, rfl, rfl, q1, q2, q3⟩
      · obtain ⟨q1, q2, q3⟩ := fin m _ hh4 g4 nmo (.inl ⟨nmh, e4⟩)
        exact ⟨_, rfl, .inl ⟨rfl, _, SqL.of q1⟩, _, rfl, o, acc, _, rfl, rfl, q1, q2, q3⟩
  · rintro σ H1 ⟨ov, mv, lv, n1, acc, shn, rfl, hh1, g1, e1, hA, len1, mean⟩
    refine ⟨_, rfl, h, d, ds, n1, 2, rfl, hh1.1, hh1.2, by omega, by omega, fun t t0 t2 => ⟨_, _, rfl, rfl, _, rfl, ?_⟩⟩
    have hh2 := hh1.next
    have g2 := hh1.go
    have e2 := g2.out _ _ noh e1
    have sl : shn.length = plain.length := by rw [len1, hpv.len]
    have hA2 : SLs (MixO h (upd H1 h (.lst [.ref d, .int ((n1 + 1 : Nat) : Int)]))) acc shn := hA.imp fun a xs z => z.2.stay g2
    refine ite2 (fun c => ?_) (fun c => ?_)
    · refine ⟨_, rfl, o, _, rfl, .inl ⟨SqL.of e2, fun t1 ht1 => ?_⟩⟩
      have u3 := same_new ht1 (.tup acc)
      exact k t1 _ _ acc shn (g1.trans (g2.trans u3.go)) (hh2.same u3) (.inr upd_same) (hA2.imp fun a xs z => z.stay u3.go) ⟨sl, mean⟩
    · exact ⟨_, rfl, k o _ _ acc shn (g1.trans g2) hh2 (.inl ⟨noh, e2⟩) hA2 ⟨sl, mean⟩⟩
end
section
variable {P : Program} {w : World} {K : PySem.W.Frag} {mg : Str → Option Value} {base : Heap}
theorem okS_more {ls : List Int} {x : List (List Int)} {k l : Nat} {m : Int} {s : List Int} (o : OkS ls x) (hm : ls[k]? = some m) (hl : (l : Int) < m) (hx : x[k]? = some s) (hn : (l : Int) ∉ s) : OkS ls (x.set k (isort (s ++ [(l : Int)]))) := by
  refine ⟨by rw [List.length_set]; exact o.1, fun i a m' ha hm' => ?_⟩
  rcases set_at ha with ⟨rfl, rfl⟩ | ⟨_, ha⟩
  · rw [hm] at hm'
    cases hm'
    obtain ⟨asc, rng⟩ := o.2 i s m hx hm
    refine ⟨isort_lt ?_, fun z hz => ?_⟩
    · rw [List.nodup_append]
      refine ⟨asc_nodup asc, by simp, fun a ha b hb => ?_⟩
      rw [List.mem_singleton.mp hb]
      rintro rfl
      exact hn ha
    · rw [mem_isort] at hz
      rcases List.mem_append.mp hz with hz | hz
      · exact rng z hz
      · rw [List.mem_singleton.mp hz]
        omega
  · exact o.2 i a m' ha hm'
def spLDue (K : PySem.W.Frag) : Sp := fun vs H Q _ => ∃ (ra : V) (la pl : Addr) (rows : List (List Int)) (ls : List Int) (pv : List V) (plain : List (List Int)), vs = [ra, .ref la, .ref pl] ∧ RowsT K H ra rows ∧ SqT K H la (ls.map V.int) ∧ SqL K H pl pv ∧ SLs (SqL K H) pv plain ∧ OkS ls plain ∧
  (∀ m ∈ ls, 0 ≤ m ∧ m ≤ 4) ∧ ls.length ≤ 4 ∧ (G rows plain = false → ∀ H', Same H H' → Q .non H') ∧ (G rows plain = true → ∀ (p : Addr) (H' : Hp) (xs : List V), Same H H' → SqT K H' p xs → RTs H' xs (grow rows ls plain ls.length) → Q (.ref p) H')
set_option maxHeartbeats 2000000 in
theorem ok_ldue {f : Addr} {fd : FuncData} (B : Blt mg) (g_law_is_good : Has P w K mg base CX0 2 "_law_is_good" ["rows", "sets"] (spLGood K)) (F : Fun K "_law_due" "_law_due" s_law_due f fd) : FnOk P w K mg base CX0 3 f fd ["rows", "labels", "sets"] (spLDue K) := by
  have sc : FnScope ["rows", "labels", "sets", "now", "at", "label", "more", "one"] ["rows", "labels", "sets"] (defScope s_law_due) := ⟨rfl, rfl, rfl, by decide +kernel, rfl, by decide +kernel, by decide +kernel⟩
  refine F.ok sc (fun vs H Q E h => ?_) (fun cdv A outer s H vs Q E hr h => ?_)
  · obtain ⟨_, _, _, _, _, _, _, rfl, _⟩ := h
    rfl
  obtain ⟨ra, la, pl, rows, ls, pv_, plain, rfl, hrows, hla, hpl, hpv, ok, l4, h4, kn, kg⟩ := h
  refine ⟨_, (pss_cons (ps_set (i := 3) sc.nd rfl (Or.inl rfl) (pe_callTy call_tuple_of (by rfl) B.tuple (by decide +kernel) (pa_cons (pe_lc (own := [("one", 7)]) (g := gName 7) (tt := tYes) rfl sc.nd (pi_list (pv 2)) (blkOk_by (N := ["rows", "labels", "sets", "now", "at", "label", "more", "one"]) (sc := defScope s_law_due) (by decide +kernel)) (fun _ _ _ _ _ => pg_name (i := 7) sc.nd rfl (Or.inl rfl)) (fun _ _ _ _ _ => pts_nil) (fun _ _ _ _ _ => (pe_callTy (show CallR _ _ (rTupOfL K) from call_tupL) (by rfl) B.tuple (by decide +kernel) (pa_cons (pe_callB (show CallR _ _ (rSortedI K) from cr_sortedI) (by rfl) B.sorted (by decide +kernel) (pa_cons (pv 7) pa_nil)) pa_nil)))) pa_nil)))
    (pss_cons (ps_if (pt_not (pt_val (pc g_law_is_good hr (pa_cons (pv 0) (pa_cons (pv 3) pa_nil)))))
      (pss_one (ps_ret pe_non))
      pss_nil)
    (pss_cons (ps_for PassesOwn.never rfl (pi_range1 (by rfl) B.range (pa_cons (pe_callB call_len_seq (by rfl) B.len (by decide +kernel) (pa_cons (pv 1) pa_nil)) pa_nil)) (pg_name (i := 4) sc.nd rfl (Or.inl rfl))
      (pss_one (ps_for PassesOwn.never rfl (pi_range1 (by rfl) B.range (pa_cons (pe_ix ix_tup (pv 1) (pv 4) (fun _ _ => rfl)) pa_nil)) (pg_name (i := 5) sc.nd rfl (Or.inl rfl))
        (pss_one (ps_if (pt_cmpR op_notIn_seq (pv 5) (pe_ix ix_tup (pv 3) (pv 4) (fun _ _ => rfl)) (by with_unfolding_all rfl))
          (pss_cons (ps_set (i := 6) sc.nd rfl (Or.inl rfl) (pe_op op_plus (pe_op op_plus (pe_slice sl_cut (pv 3) po_none (po_some (pv 4))) (pe_tup (pa_cons (pe_callTy call_tuple_of (by rfl) B.tuple (by decide +kernel) (pa_cons (pe_callB (show CallR _ _ (rSortTI K) from cr_sortTI) (by rfl) B.sorted (by decide +kernel) (pa_cons (pe_op op_plus (pe_ix ix_tup (pv 3) (pv 4) (fun _ _ => rfl)) (pe_tup (pa_cons (pv 5) pa_nil))) pa_nil)) pa_nil)) pa_nil))) (pe_slice sl_cut (pv 3) (po_some (pe_op op_add (pv 4) pe_int)) po_none)))
          (pss_one (ps_if (pt_val (pc g_law_is_good hr (pa_cons (pv 0) (pa_cons (pv 6) pa_nil))))
            (pss_one (ps_set (i := 3) sc.nd rfl (Or.inl rfl) (pv 6)))
            pss_nil)))
          pss_nil)))))
    (pss_one (ps_ret (pv 3)))))), ?_⟩
  have p4 : plain.length ≤ 4 := by rw [ok.1]; exact h4
  refine ⟨_, rfl, pl, rfl, ⟨_, hpl⟩, fun q hq => ?_⟩
  refine itl_walk (K := K) (a := pl) (xs := pv_) (fun i H1 => AccT H q (plain.take i) H1) (AccT.start hq) (fun i H1 _ a1 => a1.same.seq hpl) ?_ ?_
  · rintro i y H1 hy a1
    obtain ⟨pa, ns, rfl, hns, hpa⟩ := hpv.of hy
    have il : i < plain.length := (List.getElem?_eq_some_iff.mp hns).1
    obtain ⟨asc, _⟩ := ok.2 i ns (ls.getD i 0) hns (by simp [List.getD, show i < ls.length by rw [← ok.1]; exact il])
    refine ⟨rfl, ?_⟩
    refine ⟨_, rfl, pa, ns, rfl, a1.same.seq hpa, fun ns2 p5 pm pw hp5 => ?_⟩
    have e2 : ns2 = ns := (isort_of pm pw).trans (isort_asc asc)
    subst e2
    have u2 := same_new hp5 (.lst (ns2.map V.int))
    refine ⟨p5, _, rfl, SqL.of upd_same, fun p6 hp6 => ?_⟩
    have u3 := same_new hp6 (.tup (ns2.map V.int))
    obtain ⟨acc, e, el, b4⟩ := (a1.step (u2.trans u3)).push (r := ns2) ⟨p6, rfl, upd_same⟩
    refine ⟨acc, e, lt_small (by rw [el, List.length_take]; omega), ?_⟩
    rw [take_more hns]
    exact b4
  rintro H1 a1
  rw [hpv.len, List.take_of_length_le (Nat.le_refl _)] at a1
  obtain ⟨acc, e1, hacc⟩ := a1.ex
  refine ⟨q, _, rfl, .inl ⟨SqL.of e1, fun nw0 hnw0 => ?_⟩⟩
  have u1 := same_new hnw0 (.tup acc)
  have s1 := a1.same.trans u1
  refine ⟨_, rfl, _, rfl, ra, nw0, rows, acc, plain, rfl, hrows.stay s1.tups, SqT.of upd_same, (hacc.stay u1.tups).sls, same_few ok l4 h4, by omega, fun H2 s2 => ⟨_, rfl, ?_⟩⟩
  have s12 := s1.trans s2
  cases hg : G rows plain with
  | false =>
    refine iteT ?_
    exact kn hg H2 s12
  | true =>
  refine iteF ?_
  have pos0 : ∀ m ∈ ls, 0 ≤ m := fun m hm => (l4 m hm).1
  refine ⟨_, rfl, la, _, rfl, .inr (s12.seqT hla), (((ls.map V.int).length : Nat) : Int), rfl, by omega, by rw [List.length_map]; omega, for_range (lo := 0) (n := (((ls.map V.int).length : Nat) : Int).toNat) (fun i σ H' => ∃ (nw : Addr) (xs : List V) (av bv mv : Option V), σ = [some ra, some (.ref la), some (.ref pl), some (.ref nw), av, bv, mv, none] ∧
      Same H H' ∧ SqT K H' nw xs ∧ RTs H' xs (grow rows ls plain i)) ⟨nw0, acc, none, none, none, rfl, s12, s2.seqT (SqT.of upd_same), (hacc.stay u1.tups).stay s2.tups⟩ ?_ ?_⟩
  · rintro i σ H3 hi ⟨nw, xs, av, bv, mv, rfl, sm, hnw, hx⟩
    have il : i < ls.length := by
      rw [List.length_map] at hi
      omega
    have hm : ls[i]? = some ls[i] := List.getElem?_eq_getElem il
    have m4 := l4 _ (List.getElem_mem il)
    obtain ⟨kp, _⟩ := grow_keep ok hg pos0 i (Nat.le_of_lt il)
    have gd : ls.getD i 0 = ls[i] := getD_at hm
    refine ⟨_, rfl, _, rfl, la, _, _, _, rfl, rfl, sm.seqT hla, at_of (j := i) (by omega) (show (ls.map V.int)[i]? = some (V.int ls[i]) by rw [List.getElem?_map, hm]; rfl), ls[i], rfl, by omega, by omega, for_range (lo := 0) (n := (ls[i] : Int).toNat) (fun j σ H4 => ∃ (nw : Addr) (xs : List V) (bv mv : Option V), σ = [some ra, some (.ref la), some (.ref pl), some (.ref nw), some (.int (0 + (i : Int))), bv, mv, none] ∧
      Same H H4 ∧ SqT K H4 nw xs ∧ RTs H4 xs (growAt rows i (grow rows ls plain i) j)) ⟨nw, xs, bv, mv, rfl, sm, hnw, hx⟩ ?_ ?_⟩
    · rintro j σ H4 hj ⟨nw, xs, bv, mv, rfl, sm, hnw, hx⟩
      obtain ⟨kq, _⟩ := growAt_keep kp.ok kp.good hm j (by omega)
      rw [growAt_succ]
      generalize growAt rows i (grow rows ls plain i) j = y at kq hx ⊢
      have yl : y.length = ls.length := kq.ok.1
      have hyi : y[i]? = some y[i] := List.getElem?_eq_getElem (by omega)
      obtain ⟨v, hv, ta, rfl, hta⟩ := hx.at hyi
      have gy : y.getD i [] = y[i] := getD_at hyi
      have xlen : xs.length = y.length := hx.len
      have cut_a : cutV xs none (some (0 + (i : Int))) = xs.take i := by rw [show (0 + (i : Int)) = ((i : Nat) : Int) by omega, cut_to]
      have cut_b : cutV xs (some (0 + (i : Int) + 1)) none = xs.drop (i + 1) := by rw [show (0 + (i : Int)) + 1 = ((i + 1 : Nat) : Int) by omega, cut_from]
      have few : y[i].length ≤ 4 := ok_few kq.ok l4 _ (List.getElem_mem _)
      refine ⟨_, rfl, _, rfl, _, rfl, nw, _, _, _, rfl, rfl, hnw, at_of (j := i) (by omega) hv, ta, _, rfl, .inr (SqT.of hta), rfl, flat_ints _, ?_⟩
      rw [inV_int]
      refine ⟨!decide ((j : Int) ∈ y[i]), by rw [Int.zero_add]; rfl, ?_⟩
      cases hin : decide ((j : Int) ∈ y[i]) with
      | true =>
        refine iteF ?_
        refine ⟨nw, xs, _, _, rfl, sm, hnw, ?_⟩
        have e : stepS rows i y j = y := by
          unfold stepS
          rw [if_neg]
          rintro ⟨h, _⟩
          rw [gy, hin] at h
          cases h
        rw [e]
        exact hx
      | false =>
        refine iteT ?_
        have okm := okS_more kq.ok hm (show (j : Int) < ls[i] by omega) hyi (of_decide_eq_false hin)
        have gm := G_more (z := (j : Int)) hyi kq.good
        refine ⟨_, rfl, _, rfl, _, rfl, nw, xs, rfl, hnw, fun p1 H5 s5 hp1 => ?_⟩
        rw [cut_a] at hp1
        refine ⟨_, rfl, _, rfl, nw, _, _, _, rfl, rfl, s5.seqT hnw, at_of (j := i) (by omega) hv, _, rfl, (by show 1 ≤ sizeLine; decide), fun t2 ht2 => ?_⟩
        have v1 := same_new ht2 (.tup [V.int (0 + (j : Int))])
        have hta5 := (s5.trans v1) _ _ hta
        refine ⟨ta, t2, _, _, rfl, rfl, SqT.of hta5, SqT.of upd_same, le_sz (by rw [List.length_map]; show _ + 1 ≤ _; omega), fun p5 H6 s6 hp5 => ?_⟩
        have hp5' : SqT K H6 p5 ((y[i] ++ [(j : Int)]).map V.int) := by
          rw [List.map_append, Int.zero_add] at *
          exact hp5
        refine ⟨p5, y[i] ++ [(j : Int)], rfl, hp5', fun ns2 p6 pm pw hp6 => ?_⟩
        have e6 := isort_of pm pw
        subst e6
        have v3 := same_new hp6 (.lst ((isort (y[i] ++ [(j : Int)])).map V.int))
        refine ⟨p6, _, rfl, .inl ⟨SqL.of upd_same, fun p7 hp7 => ?_⟩⟩
        have v4 := same_new hp7 (.tup ((isort (y[i] ++ [(j : Int)])).map V.int))
        refine ⟨(by show 1 ≤ sizeLine; decide), fun p8 hp8 => ?_⟩
        have v5 := same_new hp8 (.tup [V.ref p7])
        have s58 := (v1.trans s6).trans ((v3.trans v4).trans v5)
        have h7 := v5 _ _ (upd_same (H := _) (a := p7) (o := .tup ((isort (y[i] ++ [(j : Int)])).map V.int)))
        refine ⟨p1, p8, _, _, rfl, rfl, s58.seqT hp1, SqT.of upd_same, le_sz (by rw [List.length_take]; show _ + 1 ≤ _; omega), fun p9 H9 s9 hp9 => ?_⟩
        have s49 := s5.trans (s58.trans s9)
        refine ⟨_, rfl, _, rfl, _, _, rfl, rfl, _, rfl, nw, xs, rfl, s49.seqT hnw, fun p10 H10 s10 hp10 => ?_⟩
        rw [cut_b] at hp10
        refine ⟨p9, p10, _, _, rfl, rfl, s10.seqT hp9, hp10, le_sz (by rw [List.length_append, List.length_take, List.length_drop]; show _ + 1 + _ ≤ _; omega), fun p11 H11 s11 hp11 => ?_⟩
        rw [set_cut (show i < xs.length by omega)] at hp11
        have s411 := s49.trans (s10.trans s11)
        have rt7 : RT H11 (.ref p7) (isort (y[i] ++ [(j : Int)])) := ⟨p7, rfl, (s9.trans (s10.trans s11)) _ _ h7⟩
        have hx11 := RTs.set rt7 i (hx.stay s411.tups)
        refine ⟨_, rfl, _, rfl, ra, p11, rows, _, y.set i (isort (y[i] ++ [(j : Int)])), rfl, hrows.stay (sm.trans s411).tups, hp11, hx11.sls, same_few okm l4 h4, by rw [List.length_set]; omega, fun H12 s12' => ⟨_, rfl, ?_⟩⟩
        have smz := (sm.trans s411).trans s12'
        cases hg2 : G rows (y.set i (isort (y[i] ++ [(j : Int)]))) with
        | false =>
          refine iteF ?_
          have e : stepS rows i y j = y := by
            unfold stepS
            rw [if_neg]
            rintro ⟨_, h⟩
            rw [← gm, hg2] at h
            cases h
          rw [e]
          exact ⟨nw, xs, _, _, rfl, smz, (s411.trans s12').seqT hnw, hx.stay (s411.trans s12').tups⟩
        | true =>
          refine iteT ?_
          have e : stepS rows i y j = y.set i (isort (y[i] ++ [(j : Int)])) := by
            unfold stepS
            rw [if_pos ⟨by rw [gy]; exact hin, by rw [← gm]; exact hg2⟩, gy]
          rw [e]
          exact ⟨_, rfl, p11, _, _, _, rfl, smz, s12'.seqT hp11, hx11.stay s12'.tups⟩
    · rintro σ H4 ⟨nw, xs, bv, mv, rfl, sm, hnw, hx⟩
      refine ⟨nw, xs, _, _, _, rfl, sm, hnw, ?_⟩
      rw [grow_succ, gd]
      exact hx
  · rintro σ H3 ⟨nw, xs, av, bv, mv, rfl, sm, hnw, hx⟩
    rw [List.length_map] at hx
    exact ⟨_, rfl, kg hg nw H3 xs sm hnw hx⟩
end
/-- the sets that the law makes of those -/
def pln (ls : List Int) (raw : List (List Int)) : List (List Int) := List.zipWith (fun m s => (rgs m).filter fun z => decide (z ∈ s)) ls raw
theorem pln_len {ls : List Int} {raw : List (List Int)} (h : raw.length = ls.length) : (pln ls raw).length = ls.length := by
  unfold pln
  rw [List.length_zipWith, h, Nat.min_self]
theorem pln_at {ls : List Int} {raw : List (List Int)} {i : Nat} {m : Int} {s : List Int} (h1 : ls[i]? = some m) (h2 : raw[i]? = some s) : (pln ls raw)[i]? = some ((rgs m).filter fun z => decide (z ∈ s)) := by
  unfold pln
  rw [List.getElem?_zipWith, h1, h2]
theorem pln_ok {ls : List Int} {raw : List (List Int)} (h : raw.length = ls.length) : OkS ls (pln ls raw) := by
  refine ⟨pln_len h, fun i a m ha hm => ?_⟩
  have il : i < raw.length := by
    rw [h]
    exact (List.getElem?_eq_some_iff.mp hm).1
  rw [pln_at hm (List.getElem?_eq_getElem il)] at ha
  cases ha
  refine ⟨(rgs_asc m).filter _, fun z hz => ?_⟩
  exact mem_rgs.mp (List.mem_filter.mp hz).1
theorem rgs_take {m : Int} {j : Nat} (h : j < m.toNat) : (rgs m).take (j + 1) = (rgs m).take j ++ [(j : Int)] := by
  refine take_more ?_
  unfold rgs
  rw [List.getElem?_map, List.getElem?_range h]
  rfl
theorem filter_more {m : Int} {j : Nat} {s : List Int} (h : j < m.toNat) : ((rgs m).take (j + 1)).filter (fun z => decide (z ∈ s)) = ((rgs m).take j).filter (fun z => decide (z ∈ s)) ++ (if decide ((j : Int) ∈ s) = true then [(j : Int)] else []) := by
  rw [rgs_take h, List.filter_append, List.filter_cons, List.filter_nil]
theorem sized_ok {ls : List Int} {x : List (List Int)} (o : OkS ls x) (l4 : ∀ m ∈ ls, 0 ≤ m ∧ m ≤ 4) (h4 : ls.length ≤ 4) : Sized 20 2 (.tuple (x.map tupI)) := by
  have xl := o.1
  refine Sized.more (m' := 20) (h' := 2) (sized_tup (m := 4) (h := 1) (ds := x.map tupI) fun d hd => ?_) (by rw [List.length_map]; omega) (Nat.le_refl _)
  obtain ⟨s, hs, rfl⟩ := List.mem_map.mp hd
  have few := ok_few o l4 s hs
  obtain ⟨i, hi⟩ := List.getElem?_of_mem hs
  have il : i < ls.length := by rw [← xl]; exact (List.getElem?_eq_some_iff.mp hi).1
  have hm : ls[i]? = some ls[i] := List.getElem?_eq_getElem il
  obtain ⟨_, rng⟩ := o.2 i s _ hi hm
  have m4 := l4 _ (List.getElem_mem il)
  refine Sized.more (m' := 4) (h' := 1) (sized_tup (m := 0) (h := 0) (ds := s.map PyData.int) fun d hd => ?_) (by rw [List.length_map]; omega) (Nat.le_refl _)
  obtain ⟨z, hz, rfl⟩ := List.mem_map.mp hd
  have := rng z hz
  exact sized_int (Nat.lt_of_lt_of_le (show z.natAbs < 2000 by omega) (by decide))
theorem small_ok {ls : List Int} {x : List (List Int)} (o : OkS ls x) (l4 : ∀ m ∈ ls, 0 ≤ m ∧ m ≤ 4) : ∀ s ∈ x, ∀ z ∈ s, 0 ≤ z ∧ z < 4 := fun s hs z hz => by
  obtain ⟨i, hi⟩ := List.getElem?_of_mem hs
  have il : i < ls.length := by rw [← o.1]; exact (List.getElem?_eq_some_iff.mp hi).1
  have hm : ls[i]? = some ls[i] := List.getElem?_eq_getElem il
  have := (o.2 i s _ hi hm).2 z hz
  have m4 := l4 _ (List.getElem_mem il)
  omega
theorem shows_small {shn plain : List (List Int)} (sh : Shows shn plain) (p : ∀ s ∈ plain, ∀ z ∈ s, 0 ≤ z ∧ z < 4) : ∀ s ∈ shn, s.length ≤ 8 ∧ ∀ z ∈ s, 0 ≤ z ∧ z < 4 := fun s hs => by
  obtain ⟨i, hi⟩ := List.getElem?_of_mem hs
  have il : i < plain.length := by rw [← sh.1]; exact (List.getElem?_eq_some_iff.mp hi).1
  have hp : plain[i]? = some plain[i] := List.getElem?_eq_getElem il
  obtain ⟨a, b⟩ := sh.2 i s _ hi hp
  exact ⟨a, fun z hz => p _ (List.getElem_mem il) z ((b z).mp hz)⟩
theorem shows_means {ls : List Int} {shn plain : List (List Int)} (sh : Shows shn plain) (o : OkS ls plain) : Means shn plain := by
  refine ⟨sh.1, fun i s p hs hp => ?_⟩
  obtain ⟨a, b⟩ := sh.2 i s p hs hp
  have il : i < ls.length := by rw [← o.1]; exact (List.getElem?_eq_some_iff.mp hp).1
  exact ⟨by omega, (o.2 i p _ hp (List.getElem?_eq_getElem il)).1, fun z => (b z).symm⟩
section
variable {P : Program} {w : World} {K : PySem.W.Frag} {mg : Str → Option Value} {base : Heap}
theorem shown_dn {h o : Addr} {H : Hp} {sv : List V} {shn : List (List Int)} (m : MixO h H o sv) (t : SLs (MixO h H) sv shn) (f : ∀ s ∈ shn, s.length ≤ 8 ∧ ∀ z ∈ s, 0 ≤ z ∧ z < 4) (l : shn.length ≤ 4) : ∃ dd, Dn (· = h) K H (.ref o) dd ∧ Sized 36 2 dd := by
  obtain ⟨dds, h1, h2, h3⟩ := mix_dn (K := K) t f
  rcases m with ⟨n, e⟩ | e
  · exact ⟨_, .lst n e h1, Sized.more (m' := 36) (h' := 2) (sized_lst h3) (by omega) (Nat.le_refl _)⟩
  · exact ⟨_, .tup (SqT.of e) h1, Sized.more (m' := 36) (h' := 2) (sized_tup h3) (by omega) (Nat.le_refl _)⟩
theorem task_dt {H : Hp} {a la wa ba : Addr} {D : Int} {ls : List Int} {wxs bxs : List V} {W B : List (List (List Int))} (h1 : SqT K H a [.str "task", .int D, .ref la, .ref wa, .ref ba]) (h2 : SqT K H la (ls.map V.int)) (h3 : SqT K H wa wxs) (h4 : RAll (RowsT K H) wxs W) (h5 : SqT K H ba bxs) (h6 : RAll (RowsT K H) bxs B) :
    Dt K H (.ref a) (taskD D ls W B) := .tup h1 (.cons (.str _) (.cons (.int _) (.cons (.tup h2 (DtAll.ints ls)) (.cons (.tup h3 h4.dt) (.cons (.tup h5 h6.dt) .nil)))))
def spRefused (K : PySem.W.Frag) : Sp := fun vs H Q _ => ∃ (M : Addr → Prop) (x s : V) (d : PyData), vs = [x, s] ∧ Dn M K H x d ∧ isTask d = false ∧ d.bulk ≤ 1000000 ∧ WordOk d ∧ ∀ H', Same H H' → Q (.bl true) H'
theorem ok_refused {C : Addr} {f : Addr} {fd : FuncData} (eBadTask : Err K mg "BadTask" C) (hex : PySem.W.exmOne K (.ref C) (.ref C) = some true) (gmade_greatest : Has P w K mg base (L2.CX P w) 7 "made_greatest" ["task", "number", "sets"] (spMade K C))
    (F : Fun K "_law_refused" "_law_refused" s_law_refused f fd) : FnOk P w K mg base CX0 8 f fd ["task", "sets"] (spRefused K) := by
  have sc : FnScope ["task", "sets"] ["task", "sets"] (defScope s_law_refused) := ⟨rfl, rfl, rfl, by decide +kernel, rfl, by decide +kernel, by decide +kernel⟩
  refine F.ok sc (fun vs H Q E h => ?_) (fun cdv A outer s H vs Q E hr h => ?_)
  · obtain ⟨_, _, _, _, rfl, _⟩ := h
    rfl
  obtain ⟨M, x, r, d, rfl, hd, hn, hb, hw, k⟩ := h
  refine ⟨_, (pss_cons (ps_try_only rfl rfl ⟨rfl, by decide, .inl eBadTask.g⟩ takes0 (fun W pn xe tk _ =>
      (pss_one (ps_expr (pcS gmade_greatest hr tk (pa_cons (pv 0) (pa_cons pe_int (pa_cons (pv 1) pa_nil)))))))
      (fun _ _ _ _ _ _ _ => (pss_one (ps_ret pe_bl))))
    (pss_one (ps_ret pe_bl))), ?_⟩
  exact ⟨_, rfl, _, rfl, M, x, r, d, 0, rfl, hd, hb, hw, .inl ⟨hn, fun H1 s1 => ⟨true, hex, fun _ a1 ha1 => k H1 s1, fun z => nomatch z⟩⟩⟩
def spLaw (K : PySem.W.Frag) : Sp := fun vs H Q _ => ∃ (a : Addr) (ns : List Int), vs = [.ref a] ∧ SqL K H a (ns.map V.int) ∧ ns.length ≤ 63 ∧ Sys K H ∧ ∀ H', Q (.bl true) H'
theorem ok_law {C : Addr} {f : Addr} {fd : FuncData} (B : Blt mg) (eLookError : Err K mg "LookError" C) (g_law_all : HasG P w K mg base 9 "_law_all" ["script"] (spLaw K)) (F : Fun K "law" "law" slaw f fd) : FnG P w K mg base 10 f fd ["script"] (spLaw K) := by
  have sc : FnScope ["script"] ["script"] (defScope slaw) := ⟨rfl, rfl, rfl, by decide +kernel, rfl, by decide +kernel, by decide +kernel⟩
  refine FnG.by F sc (fun vs H Q E h => ?_) (fun cdv A outer s H vs Q E hg hr h => ?_)
  · obtain ⟨_, _, rfl, _⟩ := h
    rfl
  obtain ⟨a, ns, rfl, hS, h63, S0, k⟩ := h
  refine ⟨_, (pss_one (ps_try_only rfl rfl ⟨rfl, by decide, .inl eLookError.g⟩ takes0 (fun W pn xe tk _ =>
      (pss_one (ps_ret (pcG g_law_all hg hr (pa_cons (pv 0) pa_nil)))))
      (fun _ _ _ _ _ _ _ => (pss_one (ps_ret pe_bl))))), ?_⟩
  exact ⟨_, rfl, a, ns, rfl, hS, h63, S0, fun H' => k H'⟩
end
section
variable {P : Program} {w : World} {K : PySem.W.Frag} {mg : Str → Option Value} {base : Heap}
set_option maxHeartbeats 8000000 in
theorem ok_all {C : Addr} {f : Addr} {fd : FuncData} (B : Blt mg) (g_law_draws : Has P w K mg base CX0 1 "_law_draws" ["script", "many"] (spDraws K)) (g_law_take : Has P w K mg base CX0 1 "_law_take" ["hand", "many"] (spTake K)) (g_law_task : Has P w K mg base CX0 3 "_law_task" ["hand"] (spLTask K)) (g_law_sets : Has P w K mg base CX0 2 "_law_sets" ["hand", "rows", "labels"] (spLSets K))
    (g_law_due : Has P w K mg base CX0 3 "_law_due" ["rows", "labels", "sets"] (spLDue K)) (g_law_shown : Has P w K mg base CX0 2 "_law_shown" ["hand", "sets"] (spLShown K)) (gmade_greatest : Has P w K mg base (L2.CX P w) 7 "made_greatest" ["task", "number", "sets"] (spMade K C)) (g_law_is_greatest : Has P w K mg base CX0 3 "_law_is_greatest" ["rows", "labels", "sets"] (spLGreat K))
    (g_law_refused : Has P w K mg base CX0 8 "_law_refused" ["task", "sets"] (spRefused K)) (F : Fun K "_law_all" "_law_all" s_law_all f fd) : FnG P w K mg base 9 f fd ["script"] (spLaw K) := by
  have sc : FnScope ["script", "hand", "task", "k", "sets", "number", "rows", "plain", "one", "due", "shown", "kept", "told", "many", "label"] ["script"] (defScope s_law_all) := ⟨rfl, rfl, rfl, by decide +kernel, rfl, by decide +kernel, by decide +kernel⟩
  refine FnG.by F sc (fun vs H Q E h => ?_) (fun cdv A outer s H vs Q E hg hr h => ?_)
  · obtain ⟨_, _, rfl, _⟩ := h
    rfl
  obtain ⟨a, ns, rfl, hS, h63, S0, k⟩ := h
  refine ⟨_, (pss_cons (ps_set (i := 1) sc.nd rfl (Or.inl rfl) (pe_lst (pa_cons (pc g_law_draws hr (pa_cons (pv 0) (pa_cons pe_int pa_nil))) (pa_cons pe_int pa_nil))))
    (pss_cons (ps_set (i := 2) sc.nd rfl (Or.inl rfl) (pc g_law_task hr (pa_cons (pv 1) pa_nil)))
    (pss_cons (ps_for PassesOwn.never rfl (pi_range1 (by rfl) B.range (pa_cons pe_int pa_nil)) (pg_name (i := 3) sc.nd rfl (Or.inl rfl))
      (pss_cons (ps_set (i := 5) sc.nd rfl (Or.inl rfl) (pc g_law_take hr (pa_cons (pv 1) (pa_cons (pe_callB call_len_seq (by rfl) B.len (by decide +kernel) (pa_cons (pe_ix ix_tup (pv 2) pe_int (fun _ _ => rfl)) pa_nil)) pa_nil))))
      (pss_cons (ps_set (i := 6) sc.nd rfl (Or.inl rfl) (pe_ix ix_tup (pe_ix ix_tup (pv 2) pe_int (fun _ _ => rfl)) (pv 5) (fun _ _ => rfl)))
      (pss_cons (ps_set (i := 4) sc.nd rfl (Or.inl rfl) (pc g_law_sets hr (pa_cons (pv 1) (pa_cons (pv 6) (pa_cons (pe_ix ix_tup (pv 2) pe_int (fun _ _ => rfl)) pa_nil)))))
      (pss_cons (ps_set (i := 7) sc.nd rfl (Or.inl rfl) (pe_lst pa_nil))
      (pss_cons (ps_for PassesOwn.never rfl (pi_list (pv 4)) (pg_name (i := 8) sc.nd rfl (Or.inr rfl))
        (pss_one (ps_expr (pe_bm PySem.F.plainAttrs_list PySem.F.slot_list_append PySem.F.type_list_append mt_append (pv 7) (pa_cons (pe_lc (own := [("label", 14)]) (g := gName 14) rfl sc.nd (pi_range1 (by rfl) B.range (pa_cons (pe_ix ix_tup (pe_ix ix_tup (pv 2) pe_int (fun _ _ => rfl)) (pe_callB call_len_seq (by rfl) B.len (by decide +kernel) (pa_cons (pv 7) pa_nil)) (fun _ _ => rfl)) pa_nil)) (blkOk_by (N := ["script", "hand", "task", "k", "sets", "number", "rows", "plain", "one", "due", "shown", "kept", "told", "many", "label"]) (sc := defScope s_law_all) (by decide +kernel)) (fun _ _ _ _ _ => pg_name (i := 14) sc.nd rfl (Or.inl rfl)) (fun _ _ _ _ _ => pts_one (pt_cmpR (show OpR _ _ (rIn K false) from op_in_seq) (pv 14) (pv 8) (by with_unfolding_all rfl))) (fun _ _ _ _ _ => (pv 14))) pa_nil)))))
      (pss_cons (ps_set (i := 9) sc.nd rfl (Or.inl rfl) (pc g_law_due hr (pa_cons (pv 6) (pa_cons (pe_ix ix_tup (pv 2) pe_int (fun _ _ => rfl)) (pa_cons (pv 7) pa_nil)))))
      (pss_cons (ps_set (i := 10) sc.nd rfl (Or.inl rfl) (pc g_law_shown hr (pa_cons (pv 1) (pa_cons (pv 7) pa_nil))))
      (pss_cons (ps_set (i := 11) sc.nd rfl (Or.inl rfl) (pe_callB (call_repN hg hr.units) (by rfl) B.repr (by decide +kernel) (pa_cons (pe_lst (pa_cons (pv 2) (pa_cons (pv 10) pa_nil))) pa_nil)))
      (pss_cons (ps_set (i := 12) sc.nd rfl (Or.inl rfl) (pcX gmade_greatest hr (pa_cons (pv 2) (pa_cons (pv 5) (pa_cons (pv 10) pa_nil)))))
      (pss_cons (ps_if (PW.pt (pw_or (pt_cmpR op_nes (pe_callB (call_repN hg hr.units) (by rfl) B.repr (by decide +kernel) (pa_cons (pv 12) pa_nil)) (pe_callB (call_repN hg hr.units) (by rfl) B.repr (by decide +kernel) (pa_cons (pv 9) pa_nil)) (nomark _)) (pw_or1 (pt_cmpR op_nes (pe_callB (call_repN hg hr.units) (by rfl) B.repr (by decide +kernel) (pa_cons (pe_lst (pa_cons (pv 2) (pa_cons (pv 10) pa_nil))) pa_nil)) (pv 11) (nomark _)))))
        (pss_one (ps_ret pe_bl))
        pss_nil)
      (pss_cons (ps_if (PW.pt (pw_and (pt_cmpR op_notN (pv 9) pe_non (nomark _)) (pw_and1 (pt_not (pt_val (pc g_law_is_greatest hr (pa_cons (pv 6) (pa_cons (pe_ix ix_tup (pv 2) pe_int (fun _ _ => rfl)) (pa_cons (pv 12) pa_nil)))))))))
        (pss_one (ps_ret pe_bl))
        pss_nil)
      (pss_one (ps_if (pt_cmpR op_nes (pe_callB (call_repN hg hr.units) (by rfl) B.repr (by decide +kernel) (pa_cons (pcX gmade_greatest hr (pa_cons (pv 2) (pa_cons (pv 5) (pa_cons (pc g_law_shown hr (pa_cons (pv 1) (pa_cons (pv 7) pa_nil))) pa_nil)))) pa_nil)) (pe_callB (call_repN hg hr.units) (by rfl) B.repr (by decide +kernel) (pa_cons (pv 9) pa_nil)) (nomark _))
        (pss_one (ps_ret pe_bl))
        pss_nil))))))))))))))
    (pss_cons (ps_setLc (i := 4) (own := [("many", 13)]) (g := gName 13) (tt := tYes) rfl sc.nd rfl rfl (sw_true rfl rfl rfl (by decide +kernel)) (pi_tup (pe_ix ix_tup (pv 2) pe_int (fun _ _ => rfl))) (blkOk_by (N := ["script", "hand", "task", "k", "sets", "number", "rows", "plain", "one", "due", "shown", "kept", "told", "many", "label"]) (sc := defScope s_law_all) (by decide +kernel)) (fun _ _ _ _ _ => pg_name (i := 13) sc.nd rfl (Or.inl rfl)) (fun _ _ _ _ _ => pts_nil) (fun _ _ _ _ _ => (pe_lst (pa_cons pe_int pa_nil))))
    (pss_one (ps_ret (pe_and (pc g_law_refused hr (pa_cons (pe_callTy call_list_of (by rfl) B.list (by decide +kernel) (pa_cons (pv 2) pa_nil)) (pa_cons (pv 4) pa_nil))) (pe_one (pc g_law_refused hr (pa_cons (pe_slice sl_cut (pv 2) po_none (po_some pe_int)) (pa_cons (pv 4) pa_nil))))))))))), ?_⟩
  refine ⟨_, rfl, a, ns, 260, rfl, hS, h63, by omega, fun d H1 ds hd0 s1 hd1 hdl hdb => ⟨(by show 2 ≤ sizeLine; decide), fun h hh0 => ?_⟩⟩
  have ndh : d ≠ h := ne_of_none hd1 hh0
  have hH1 : Hand (upd H1 h (.lst [.ref d, .int 0])) h d ds 0 := ⟨upd_same, by rw [upd_ne ndh]; exact hd1⟩
  have S1 := S0.same (s1.trans (same_new hh0 (.lst [.ref d, .int 0])))
  have nh : ¬ sysModules = h := S1.ne hH1.1
  refine ⟨_, rfl, h, d, ds, 0, rfl, hH1, fun ta la wa ba wxs bxs H2 n2 D ls W Bl g2 hh2 hta hla hwa hW hba hB dr => ?_⟩
  have S2 := S1.go g2 nh
  have h4 : ls.length ≤ 4 := by have := dr.len; have := dr.D4; omega
  have l4 := dr.l4
  have it := dr.is
  have tS := dr.sized
  have tb : (taskD D ls W Bl).bulk ≤ 1000000 := Nat.le_trans tS.2.2.2 (by decide)
  have T2 : Dt K H2 (.ref ta) (taskD D ls W Bl) := task_dt hta hla hwa hW hba hB
  have r256 : ∀ rows ∈ Bl, rows.length ≤ 256 := fun rows hr => sub_len l4 h4 (dr.bok rows hr)
  refine ⟨6, rfl, by decide, by decide, for_range (lo := 0) (n := (6 : Int).toNat) (fun i σ H4 => ∃ (n : Nat) (kv sv nv rv pv ov dv hv tv xv : Option V), σ = [some (.ref a), some (.ref h), some (.ref ta), kv, sv, nv, rv, pv, ov, dv, hv, tv, xv, none, none] ∧ Hand H4 h d ds n ∧ Go (· = h) H2 H4)
    ⟨n2, none, none, none, none, none, none, none, none, none, none, rfl, hh2, Go.refl _⟩ ?_ ?_⟩
  · rintro i σ H4 hi ⟨n, kv, sv, nv, rv, pv, ov, dv, hv, tv, xv, rfl, hh, g4⟩
    have bl : bxs.length = Bl.length := hB.len
    have b14 := And.intro dr.b1 dr.b4
    refine ⟨_, rfl, _, rfl, ta, _, _, _, rfl, rfl, g4.seqT hta, at_of (j := 4) rfl rfl, ba, _, rfl, .inr (g4.seqT hba), h, d, ds, n, _, rfl, hh.1, hh.2, by omega, by omega, fun z z0 zm => ?_⟩
    have hh5 := hh.next
    have g5 := g4.trans hh.go
    obtain ⟨nz, rfl⟩ : ∃ nz : Nat, z = nz := ⟨z.toNat, by omega⟩
    have nzl : nz < bxs.length := by omega
    have hvx : bxs[nz]? = some bxs[nz] := List.getElem?_eq_getElem nzl
    obtain ⟨rows, hrow, hrv⟩ := (hB.imp fun v r x => x.stay g5.tups).of hvx
    obtain ⟨ra, rxs, era, hra, hrt⟩ := hrv
    rw [era] at hvx
    have hrows : RowsT K _ (.ref ra) rows := ⟨ra, rxs, rfl, hra, hrt⟩
    have rmem := List.mem_of_getElem? hrow
    refine ⟨_, rfl, ta, _, _, _, rfl, rfl, g5.seqT hta, at_of (j := 4) rfl rfl, _, rfl, ba, _, _, _, rfl, rfl, g5.seqT hba, at_of (j := nz) (by omega) hvx, ?_⟩
    refine ⟨_, rfl, _, rfl, _, rfl, ta, _, _, _, rfl, rfl, g5.seqT hta, at_of (j := 2) rfl rfl, h, d, ds, n + 1, ra, la, rows, ls, rfl, hh5, hrows, dr.bok rows rmem, by have := r256 rows rmem; omega, g5.seqT hla, dr.lab, h4, fun p H6 n6 acc raw g6 hh6 np ep hraw rl => ?_⟩
    have g26 := g5.trans g6
    have hrows6 := hrows.stay g6.tups
    refine ⟨Nat.zero_le _, fun pl hpl => ?_⟩
    have u7 := same_new hpl (.lst [])
    have npl : pl ≠ h := (ne_of_none hh6.1 hpl).symm
    have npp : p ≠ pl := ne_of_none ep hpl
    have al : acc.length = ls.length := by rw [hraw.len, rl]
    refine ⟨_, rfl, p, rfl, ⟨_, SqL.of (u7 _ _ ep)⟩, for_list (K := K) (a := p) (xs := acc) (fun j σ H7 => ∃ (ov : Option V) (acc2 : List V), σ = [some (.ref a), some (.ref h), some (.ref ta), some (.int (0 + (i : Int))), some (.ref p), some (.int (nz : Int)), some (.ref ra), some (.ref pl), ov, dv, hv, tv, xv, none, none] ∧
      Same H6 H7 ∧ H7 pl = some (.lst acc2) ∧ SLs (fun b xs => b ≠ pl ∧ Own h H7 b xs) acc2 ((pln ls raw).take j)) ⟨ov, [], rfl, u7, upd_same, .nil⟩ (fun j σ H7 _ ⟨_, _, _, s, _⟩ => SqL.of (s _ _ ep)) ?_ ?_⟩
    · rintro j y σ H7 hj ⟨ov, acc2, rfl, s7, epl, hA⟩
      obtain ⟨oa, ss, rfl, hss, hoa⟩ := hraw.of hj
      have jl : j < ls.length := by rw [← al]; exact (List.getElem?_eq_some_iff.mp hj).1
      have hm : ls[j]? = some ls[j] := List.getElem?_eq_getElem jl
      have m4 := l4 _ (List.getElem_mem jl)
      have lp := pln_len rl
      have al2 : acc2.length = j := by rw [hA.len, List.length_take]; omega
      have g7 := g26.trans s7.go
      refine ⟨_, rfl, .inl ⟨rfl, _, SqL.of epl⟩, _, rfl, ta, _, _, _, rfl, rfl, g7.seqT hta, at_of (j := 2) rfl rfl, _, rfl, pl, _, rfl, .inl (SqL.of epl), la, _, _, _, rfl, rfl, g7.seqT hla, at_of (j := j) (by omega) (show (ls.map V.int)[j]? = some (V.int ls[j]) by rw [List.getElem?_map, hm]; rfl), ls[j], rfl, by omega, by omega, fun o ho => ?_⟩
      have noh : o ≠ h := (ne_of_none (hh6.same s7).1 ho).symm
      have nop : o ≠ pl := (ne_of_none epl ho).symm
      refine itr_walk (lo := 0) (n := (ls[j] : Int).toNat) (fun q H8 => Same H7 H8 ∧ H8 o = some (.lst ((((rgs ls[j]).take q).filter fun z => decide (z ∈ ss)).map V.int))) ⟨same_new ho _, upd_same⟩ ?_ ?_
      · rintro q H8 hq ⟨s8, eo⟩
        have lq : (((rgs ls[j]).take q).filter fun z => decide (z ∈ ss)).length ≤ 4 := by
          have a1 := List.length_filter_le (fun z => decide (z ∈ ss)) ((rgs ls[j]).take q)
          rw [List.length_take] at a1
          omega
        refine ⟨rfl, ?_⟩
        refine ⟨_, rfl, _, rfl, oa, _, rfl, .inl (SqL.of (s8 _ _ (s7 _ _ hoa.2))), rfl, flat_ints _, ?_⟩
        rw [inV_int]
        refine ⟨decide ((q : Int) ∈ ss), by rw [Int.zero_add]; rfl, ?_⟩
        cases hin : decide ((q : Int) ∈ ss) with
        | true =>
          refine iteT ?_
          refine ⟨_, rfl, _, eo, lt_small (by rw [List.length_map]; omega), same_own s8 ho _, ?_⟩
          rw [upd_same, filter_more hq, if_pos hin, List.map_append, Int.zero_add]
          rfl
        | false =>
          refine iteF ?_
          refine ⟨s8, ?_⟩
          rw [filter_more hq, hin, if_neg Bool.false_ne_true, List.append_nil]
          exact eo
      · rintro H8 ⟨s8, eo⟩
        rw [List.take_of_length_le (by rw [rgs_len]; exact Nat.le_refl _)] at eo
        have e8 := s8 _ _ epl
        refine ⟨pl, acc2, _, rfl, rfl, e8, lt_small (by omega), ?_⟩
        refine ⟨_, acc2 ++ [.ref o], rfl, same_own (s7.trans s8) hpl _, upd_same, ?_⟩
        rw [take_more (pln_at hm hss)]
        exact SLs.app (hA.imp fun b xs x => ⟨x.1, x.2.1, (upd_ne x.1).trans (s8 _ _ x.2.2)⟩) (.cons ⟨nop, noh, (upd_ne nop).trans eo⟩ .nil)
    · rintro σ H7 ⟨ov, acc2, rfl, s7, epl, hA⟩
      rw [al, List.take_of_length_le (by rw [pln_len rl]; exact Nat.le_refl _)] at hA
      have okP := pln_ok rl
      generalize pln ls raw = plain at hA okP
      have g7 := g26.trans s7.go
      refine ⟨_, rfl, _, rfl, ta, _, _, _, rfl, rfl, g7.seqT hta, at_of (j := 2) rfl rfl, _, rfl, .ref ra, la, pl, rows, ls, acc2, plain, rfl, hrows6.stay s7.tups, g7.seqT hla, SqL.of epl, hA.imp fun b xs x => SqL.of x.2.2, okP, l4, h4, fun hgd H9 s9 => ?_, fun hgd dp H9 dxs s9 hdp hdx => ?_⟩
      · have szD : Sized 20 2 .none := sized_non.more (by decide) (by decide)
        have s69 := s7.trans s9
        have hh9 := hh6.same s69
        have epl9 := s9 _ _ epl
        have hA9 : SLs (Own h H9) acc2 plain := hA.imp fun b xs x => ⟨x.2.1, s9 _ _ x.2.2⟩
        have p4 : plain.length ≤ 4 := by rw [okP.1]; exact h4
        refine ⟨_, rfl, _, rfl, h, d, ds, n6, pl, acc2, plain, rfl, hh9, npl, epl9, hA9, ok_few okP l4, p4, fun o H10 n10 sv shn g10 hh10 mo msv sh => ?_⟩
        have g210 := (g26.trans s69.go).trans g10
        have epl10 := g10.out _ _ npl epl9
        have hA10 : SLs (Own h H10) acc2 plain := hA9.imp fun b xs x => ⟨x.1, g10.out _ _ x.1 x.2⟩
        have ssh := shows_small sh (small_ok okP l4)
        obtain ⟨dd, hdd, szd⟩ := shown_dn (K := K) mo msv ssh (by rw [sh.1]; exact p4)
        have S10 := S2.go g210 nh
        have T10 := T2.stay g210.tups
        have all2 : ∀ z ∈ [taskD D ls W Bl, dd], Sized 25625 4 z := fun z hz => by
          simp only [List.mem_cons, List.not_mem_nil, or_false] at hz
          rcases hz with rfl | rfl
          · exact tS
          · exact szd.more (by decide) (by decide)
        have sz2 : Sized 60000 5 (.list [taskD D ls W Bl, dd]) := Sized.more (m' := 60000) (h' := 5) (sized_lst all2) (by show 2 * (25625 + 1) ≤ 60000; decide) (Nat.le_refl _)
        obtain ⟨z1, z2, z3⟩ := sz2.rep (by decide) (by decide)
        obtain ⟨y1, y2, y3⟩ := szD.rep (by decide) (by decide)
        have listed : ∀ {H11 : Hp} {L : Addr}, Same H10 H11 → ¬ L = h → H11 L = some (.lst [.ref ta, .ref o]) → Dn (· = h) K H11 (.ref L) (.list [taskD D ls W Bl, dd]) := fun {H11 L} s11 nL e =>
          .lst nL e (.cons (T10.stay s11.tups).dn (.cons (hdd.stay s11.go) .nil))
        refine ⟨_, rfl, _, rfl, (by show 2 ≤ sizeLine; decide), fun L hL => ?_⟩
        have sL := same_new hL (.lst [.ref ta, .ref o])
        have nL : ¬ L = h := (ne_of_none hh10.1 hL).symm
        have gL1 : Go (· = h) H10 _ := sL.go
        refine ⟨(· = h), _, _, rfl, listed sL nL upd_same, S10.same sL, z1, z2, z3, ?_⟩
        refine ⟨_, rfl, _, rfl, _, rfl, (· = h), .ref ta, .ref o, _, nz, rfl, (T10.stay gL1.tups).dn, tb, task_word _ _ _ _, .inr ⟨it, ta, la, ba, o, .str "task", .int D, .ref wa, ls, bxs, sv, Bl, rows, shn, plain, rfl, rfl, (g210.trans gL1).seqT hta, (g210.trans gL1).seqT hla, (g210.trans gL1).seqT hba, hB.imp (fun v r x => x.stay (g210.trans gL1).tups), by omega, fun r hr => by have := r256 r hr; omega, hrow, (mo.stay sL.go).mix, SLs.imp (fun b xs x => MixO.mix x) (SLs.imp (fun b xs x => MixO.stay sL.go x) msv), shows_means sh okP, okP, l4, h4, (fun _ H12 s12 => ?_), (fun x => by rw [hgd] at x; cases x)⟩⟩
        have sL2 := sL.trans s12
        refine ⟨_, rfl, (· = h), .non, .none, rfl, .non, S10.same sL2, y1, y2, y3, _, rfl, (· = h), .non, .none, rfl, .non, S10.same sL2, y1, y2, y3, _, _, rfl, rfl, _, rfl, ?_⟩
        rw [decide_eq_true rfl]
        refine iteF ?_
        refine ⟨_, rfl, _, rfl, (by show 2 ≤ sizeLine; decide), fun L2 hL2 => ?_⟩
        have s13 := sL2.trans (same_new hL2 (.lst [.ref ta, .ref o]))
        have nL2 : ¬ L2 = h := (ne_of_none (hh10.same sL2).1 hL2).symm
        refine ⟨(· = h), _, _, rfl, listed s13 nL2 upd_same, S10.same s13, z1, z2, z3, _, rfl, _, _, rfl, rfl, _, rfl, ?_⟩
        rw [decide_eq_true rfl]
        refine iteF ?_
        refine ⟨_, rfl, rfl, _, rfl, ?_⟩
        rw [decide_eq_true rfl]
        refine iteF ?_
        refine iteF ?_
        refine ⟨_, rfl, _, rfl, _, rfl, _, rfl, h, d, ds, n10, pl, acc2, plain, rfl, hh10.same s13, npl, s13 _ _ epl10, hA10.imp (fun b xs x => ⟨x.1, s13 _ _ x.2⟩), ok_few okP l4, p4, fun o2 H14 n14 sv2 shn2 g14 hh14 mo2 msv2 sh2 => ?_⟩
        have gL3 : Go (· = h) H10 H14 := s13.go.trans g14
        refine ⟨(· = h), .ref ta, .ref o2, _, nz, rfl, (T10.stay gL3.tups).dn, tb, task_word _ _ _ _, .inr ⟨it, ta, la, ba, o2, .str "task", .int D, .ref wa, ls, bxs, sv2, Bl, rows, shn2, plain, rfl, rfl, (g210.trans gL3).seqT hta, (g210.trans gL3).seqT hla, (g210.trans gL3).seqT hba, hB.imp (fun v r x => x.stay (g210.trans gL3).tups), by omega, fun r hr => by have := r256 r hr; omega, hrow, mo2.mix, SLs.imp (fun b xs x => MixO.mix x) msv2, shows_means sh2 okP, okP, l4, h4, (fun _ H15 s15 => ?_), (fun x => by rw [hgd] at x; cases x)⟩⟩
        have S15 := S10.go (gL3.trans s15.go) nh
        refine ⟨(· = h), .non, .none, rfl, .non, S15, y1, y2, y3, _, rfl, (· = h), .non, .none, rfl, .non, S15, y1, y2, y3, _, _, rfl, rfl, _, rfl, ?_⟩
        rw [decide_eq_true rfl]
        refine iteF ?_
        exact ⟨n14, _, _, _, _, _, _, _, _, _, _, rfl, hh14.same s15, g210.trans (gL3.trans s15.go)⟩
      · have okG := (grow_keep okP hgd (fun m hm => (l4 m hm).1) ls.length (Nat.le_refl _)).1.ok
        have dnG := (grow_keep okP hgd (fun m hm => (l4 m hm).1) ls.length (Nat.le_refl _)).2
        have szD := sized_ok okG l4 h4
        have dueD : ∀ {HH : Hp}, TupsStay H9 HH → Dt K HH (.ref dp) (.tuple ((grow rows ls plain ls.length).map tupI)) := fun t => .tup (t.seq hdp) (hdx.stay t).dt
        have s69 := s7.trans s9
        have hh9 := hh6.same s69
        have epl9 := s9 _ _ epl
        have hA9 : SLs (Own h H9) acc2 plain := hA.imp fun b xs x => ⟨x.2.1, s9 _ _ x.2.2⟩
        have p4 : plain.length ≤ 4 := by rw [okP.1]; exact h4
        refine ⟨_, rfl, _, rfl, h, d, ds, n6, pl, acc2, plain, rfl, hh9, npl, epl9, hA9, ok_few okP l4, p4, fun o H10 n10 sv shn g10 hh10 mo msv sh => ?_⟩
        have g210 := (g26.trans s69.go).trans g10
        have epl10 := g10.out _ _ npl epl9
        have hA10 : SLs (Own h H10) acc2 plain := hA9.imp fun b xs x => ⟨x.1, g10.out _ _ x.1 x.2⟩
        have ssh := shows_small sh (small_ok okP l4)
        obtain ⟨dd, hdd, szd⟩ := shown_dn (K := K) mo msv ssh (by rw [sh.1]; exact p4)
        have S10 := S2.go g210 nh
        have T10 := T2.stay g210.tups
        have all2 : ∀ z ∈ [taskD D ls W Bl, dd], Sized 25625 4 z := fun z hz => by
          simp only [List.mem_cons, List.not_mem_nil, or_false] at hz
          rcases hz with rfl | rfl
          · exact tS
          · exact szd.more (by decide) (by decide)
        have sz2 : Sized 60000 5 (.list [taskD D ls W Bl, dd]) := Sized.more (m' := 60000) (h' := 5) (sized_lst all2) (by show 2 * (25625 + 1) ≤ 60000; decide) (Nat.le_refl _)
        obtain ⟨z1, z2, z3⟩ := sz2.rep (by decide) (by decide)
        obtain ⟨y1, y2, y3⟩ := szD.rep (by decide) (by decide)
        have listed : ∀ {H11 : Hp} {L : Addr}, Same H10 H11 → ¬ L = h → H11 L = some (.lst [.ref ta, .ref o]) → Dn (· = h) K H11 (.ref L) (.list [taskD D ls W Bl, dd]) := fun {H11 L} s11 nL e =>
          .lst nL e (.cons (T10.stay s11.tups).dn (.cons (hdd.stay s11.go) .nil))
        refine ⟨_, rfl, _, rfl, (by show 2 ≤ sizeLine; decide), fun L hL => ?_⟩
        have sL := same_new hL (.lst [.ref ta, .ref o])
        have nL : ¬ L = h := (ne_of_none hh10.1 hL).symm
        have gL1 : Go (· = h) H10 _ := sL.go
        refine ⟨(· = h), _, _, rfl, listed sL nL upd_same, S10.same sL, z1, z2, z3, ?_⟩
        refine ⟨_, rfl, _, rfl, _, rfl, (· = h), .ref ta, .ref o, _, nz, rfl, (T10.stay gL1.tups).dn, tb, task_word _ _ _ _, .inr ⟨it, ta, la, ba, o, .str "task", .int D, .ref wa, ls, bxs, sv, Bl, rows, shn, plain, rfl, rfl, (g210.trans gL1).seqT hta, (g210.trans gL1).seqT hla, (g210.trans gL1).seqT hba, hB.imp (fun v r x => x.stay (g210.trans gL1).tups), by omega, fun r hr => by have := r256 r hr; omega, hrow, (mo.stay sL.go).mix, SLs.imp (fun b xs x => MixO.mix x) (SLs.imp (fun b xs x => MixO.stay sL.go x) msv), shows_means sh okP, okP, l4, h4, (fun x => by rw [hgd] at x; cases x), (fun _ tp H12 txs s12 htp htx => ?_)⟩⟩
        have sL2 := sL.trans s12
        have toldD : ∀ {HH : Hp}, TupsStay H12 HH → Dt K HH (.ref tp) (.tuple ((grow rows ls plain ls.length).map tupI)) := fun t => .tup (t.seq htp) (htx.stay t).dt
        have t912 := g10.tups.trans sL2.tups
        refine ⟨_, rfl, (· = h), .ref tp, _, rfl, (toldD (TupsStay.refl _)).dn, S10.same sL2, y1, y2, y3, _, rfl, (· = h), .ref dp, _, rfl, (dueD t912).dn, S10.same sL2, y1, y2, y3, _, _, rfl, rfl, _, rfl, ?_⟩
        rw [decide_eq_true rfl]
        refine iteF ?_
        refine ⟨_, rfl, _, rfl, (by show 2 ≤ sizeLine; decide), fun L2 hL2 => ?_⟩
        have u13 := same_new hL2 (.lst [.ref ta, .ref o])
        have s13 := sL2.trans u13
        have nL2 : ¬ L2 = h := (ne_of_none (hh10.same sL2).1 hL2).symm
        refine ⟨(· = h), _, _, rfl, listed s13 nL2 upd_same, S10.same s13, z1, z2, z3, _, rfl, _, _, rfl, rfl, _, rfl, ?_⟩
        rw [decide_eq_true rfl]
        refine iteF ?_
        refine ⟨_, rfl, rfl, _, rfl, ?_⟩
        rw [decide_eq_false (fun z => nomatch z)]
        refine iteT ?_
        have g13 : Go (· = h) H2 _ := g210.trans s13.go
        have rows13 : RowsT K _ (.ref ra) rows := (hrows6.stay s69.tups).stay (g10.tups.trans s13.tups)
        refine ⟨_, rfl, _, rfl, ta, _, _, _, rfl, rfl, g13.seqT hta, at_of (j := 2) rfl rfl, _, rfl, .ref ra, la, tp, rows, ls, txs, _, rfl, rows13, g13.seqT hla, u13.seqT htp, htx.stay u13.tups, okG, l4, h4, dnG, fun H13 s13' => ⟨_, rfl, ?_⟩⟩
        refine iteF ?_
        have s1 := s13.trans s13'
        refine ⟨_, rfl, _, rfl, _, rfl, _, rfl, h, d, ds, n10, pl, acc2, plain, rfl, hh10.same s1, npl, s1 _ _ epl10, hA10.imp (fun b xs x => ⟨x.1, s1 _ _ x.2⟩), ok_few okP l4, p4, fun o2 H14 n14 sv2 shn2 g14 hh14 mo2 msv2 sh2 => ?_⟩
        have gL3 : Go (· = h) H10 H14 := s1.go.trans g14
        refine ⟨(· = h), .ref ta, .ref o2, _, nz, rfl, (T10.stay gL3.tups).dn, tb, task_word _ _ _ _, .inr ⟨it, ta, la, ba, o2, .str "task", .int D, .ref wa, ls, bxs, sv2, Bl, rows, shn2, plain, rfl, rfl, (g210.trans gL3).seqT hta, (g210.trans gL3).seqT hla, (g210.trans gL3).seqT hba, hB.imp (fun v r x => x.stay (g210.trans gL3).tups), by omega, fun r hr => by have := r256 r hr; omega, hrow, mo2.mix, SLs.imp (fun b xs x => MixO.mix x) msv2, shows_means sh2 okP, okP, l4, h4, (fun x => by rw [hgd] at x; cases x), (fun _ tp2 H15 txs2 s15 htp2 htx2 => ?_)⟩⟩
        have S15 := S10.go (gL3.trans s15.go) nh
        refine ⟨(· = h), .ref tp2, _, rfl, (Dt.tup htp2 htx2.dt).dn, S15, y1, y2, y3, _, rfl, (· = h), .ref dp, _, rfl, (dueD (g10.tups.trans (gL3.tups.trans s15.tups))).dn, S15, y1, y2, y3, _, _, rfl, rfl, _, rfl, ?_⟩
        rw [decide_eq_true rfl]
        refine iteF ?_
        exact ⟨n14, _, _, _, _, _, _, _, _, _, _, rfl, hh14.same s15, g210.trans (gL3.trans s15.go)⟩
  · rintro σ H4 ⟨n, kv, sv, nv, rv, pv, ov, dv, hv, tv, xv, rfl, hh, g4⟩
    refine ⟨_, rfl, ta, _, _, _, rfl, rfl, g4.seqT hta, at_of (j := 2) rfl rfl, la, rfl, ⟨_, g4.seqT hla⟩, fun q hq => ?_⟩
    refine itt_walk (K := K) (a := la) (xs := ls.map V.int) (fun i H5 => Same H4 H5 ∧ ∃ acc, H5 q = some (.lst acc) ∧ acc.length = i) ⟨same_new hq _, [], upd_same, rfl⟩ (fun i H5 _ z => z.1.seqT (g4.seqT hla)) ?_ ?_
    · rintro i y H5 hy ⟨s5, acc, eq, len⟩
      have il := (List.getElem?_eq_some_iff.mp hy).1
      rw [List.length_map] at il
      refine ⟨rfl, ?_⟩
      refine ⟨(by show 1 ≤ sizeLine; decide), fun l hl => ?_⟩
      have u := same_new hl (.lst [V.int 0])
      exact ⟨acc, u _ _ eq, lt_small (by omega), same_own (s5.trans u) hq _, _, upd_same, by rw [List.length_append, len]; rfl⟩
    · rintro H5 ⟨s5, acc, eq, len⟩
      have t5 := g4.tups.trans s5.tups
      refine ⟨_, rfl, ta, _, rfl, .inr (t5.seq hta), fun l hl => ?_⟩
      have u := same_new hl (.lst [.str "task", .int D, .ref la, .ref wa, .ref ba])
      have tu := t5.trans u.tups
      refine ⟨_, rfl, (fun _ => False), .ref l, .ref q, .list [.str "task", .int D, tupI ls, sideD W, sideD Bl], rfl, .lst id upd_same (.cons (.str _) (.cons (.int _) (.cons (.tup (tu.seq hla) (DtAll.ints ls).dn) (.cons (.tup (tu.seq hwa) ((hW.imp fun v r x => x.stay tu).dt).dn) (.cons (.tup (tu.seq hba) ((hB.imp fun v r x => x.stay tu).dt).dn) .nil))))), rfl, ?_, (fun w r e _ => by cases e), fun H6 s6 => ⟨_, rfl, ?_⟩⟩
      · have := tb
        unfold taskD at this
        simp only [PyData.bulk, PyData.bulkAll] at this ⊢
        omega
      refine iteT ?_
      have t6 := tu.trans s6.tups
      refine ⟨_, rfl, _, rfl, ta, _, rfl, t6.seq hta, fun p4 H7 s7 hp4 => ?_⟩
      rw [show (4 : Int) = ((4 : Nat) : Int) from rfl, cut_to] at hp4
      have t7 := t6.trans s7.tups
      refine ⟨_, rfl, (fun _ => False), .ref p4, .ref q, .tuple [.str "task", .int D, tupI ls, sideD W], rfl, .tup hp4 (.cons (.str _) (.cons (.int _) (.cons (.tup (t7.seq hla) (DtAll.ints ls).dn) (.cons (.tup (t7.seq hwa) ((hW.imp fun v r x => x.stay t7).dt).dn) .nil)))), rfl, ?_, (fun w r e l => by cases e; simp at l), fun H8 _ => k H8⟩
      have := tb
      unfold taskD at this
      simp only [PyData.bulk, PyData.bulkAll] at this ⊢
      omega
end
/-! ### the top: the defs stand there as the text says -/
theorem def_mk {K : PySem.W.Frag} {h : Heap} {mg : Str → Option Value} {x : Str} {st : Stmt} {ps : List Str} {f : Addr} {od an : Option Addr} {sl : Array (Option Value)} {oc kV dc pm cd ct : Value} (X : K.In h) (G : h.Ns mainGlobals mg)
    (a : PySem.W.nsIn K mainGlobals x = some (some (.ref f))) (l : K.lookup f = some ⟨oc, od, .func (PySem.W.fnOf x x (defArgs st) (defBody st) (defScope st) .none kV dc pm an cd ct), sl⟩) (c : PySem.W.codeIn K cd x = true) (k : PySem.W.keepIn K (.ref f) = true)
    (b : ∀ (kV doc pm : Value) (an : Option Addr) (cdv ct : Value) (us : List Value), us.length = ps.length → bindArgs (PySem.W.fnOf x x (defArgs st) (defBody st) (defScope st) .none kV doc pm an cdv ct) ⟨us, []⟩ = pure (ps.zip us)) : Def K mg x st ps :=
  ⟨f, _, fun_mk l c k, PySem.W.mg_of X G a, (fun_mk l c k).binds b⟩
theorem all_mk {l : PySem.W.OpenLaw} {w : World} {K : PySem.W.Frag} {h : Heap} {mg : Str → Option Value} {fa f4 f5 f7 f14 f15 f16 f17 f18 f19 f20 f22 f23 f24 f26 f27 f28 f29 f30 f31 f32 f33 f34 f35 f36 f37 f38 CBadTask CLookError : Addr} (X : K.In h) (G : h.Ns mainGlobals mg) (hfa : mg "law" = some (.ref fa))
    {od4 an4 od5 an5 od7 an7 od14 an14 od15 an15 od16 an16 od17 an17 od18 an18 od19 an19 od20 an20 od22 an22 od23 an23 od24 an24 od26 an26 od27 an27 od28 an28 od29 an29 od30 an30 od31 an31 od32 an32 od33 an33 od34 an34 od35 an35 od36 an36 od37 an37 od38 an38 : Option Addr} {sl4 sl5 sl7 sl14 sl15 sl16 sl17 sl18 sl19 sl20 sl22 sl23 sl24 sl26 sl27 sl28 sl29 sl30 sl31 sl32 sl33 sl34 sl35 sl36 sl37 sl38 : Array (Option Value)} {oc4 kV4 dc4 pm4 cd4 ct4 oc5 kV5 dc5 pm5 cd5 ct5 oc7 kV7 dc7 pm7 cd7 ct7 oc14 kV14 dc14 pm14 cd14 ct14 oc15 kV15 dc15 pm15 cd15 ct15 oc16 kV16 dc16 pm16 cd16 ct16 oc17 kV17 dc17 pm17 cd17 ct17 oc18 kV18 dc18 pm18 cd18 ct18 oc19 kV19 dc19 pm19 cd19 ct19 oc20 kV20 dc20 pm20 cd20 ct20 oc22 kV22 dc22 pm22 cd22 ct22 oc23 kV23 dc23 pm23 cd23 ct23 oc24 kV24 dc24 pm24 cd24 ct24 oc26 kV26 dc26 pm26 cd26 ct26 oc27 kV27 dc27 pm27 cd27 ct27 oc28 kV28 dc28 pm28 cd28 ct28 oc29 kV29 dc29 pm29 cd29 ct29 oc30 kV30 dc30 pm30 cd30 ct30 oc31 kV31 dc31 pm31 cd31 ct31 oc32 kV32 dc32 pm32 cd32 ct32 oc33 kV33 dc33 pm33 cd33 ct33 oc34 kV34 dc34 pm34 cd34 ct34 oc35 kV35 dc35 pm35 cd35 ct35 oc36 kV36 dc36 pm36 cd36 ct36 oc37 kV37 dc37 pm37 cd37 ct37 oc38 kV38 dc38 pm38 cd38 ct38 : Value}
    (a4 : PySem.W.nsIn K mainGlobals "is_number" = some (some (.ref f4))) (l4 : K.lookup f4 = some ⟨oc4, od4, .func (PySem.W.fnOf "is_number" "is_number" (defArgs sis_number) (defBody sis_number) (defScope sis_number) .none kV4 dc4 pm4 an4 cd4 ct4), sl4⟩) (c4 : PySem.W.codeIn K cd4 "is_number" = true) (k4 : PySem.W.keepIn K (.ref f4) = true)
    (a5 : PySem.W.nsIn K mainGlobals "product_of" = some (some (.ref f5))) (l5 : K.lookup f5 = some ⟨oc5, od5, .func (PySem.W.fnOf "product_of" "product_of" (defArgs sproduct_of) (defBody sproduct_of) (defScope sproduct_of) .none kV5 dc5 pm5 an5 cd5 ct5), sl5⟩) (c5 : PySem.W.codeIn K cd5 "product_of" = true) (k5 : PySem.W.keepIn K (.ref f5) = true)
    (a7 : PySem.W.nsIn K mainGlobals "choices" = some (some (.ref f7))) (l7 : K.lookup f7 = some ⟨oc7, od7, .func (PySem.W.fnOf "choices" "choices" (defArgs schoices) (defBody schoices) (defScope schoices) .none kV7 dc7 pm7 an7 cd7 ct7), sl7⟩) (c7 : PySem.W.codeIn K cd7 "choices" = true) (k7 : PySem.W.keepIn K (.ref f7) = true)
    (a14 : PySem.W.nsIn K mainGlobals "check_task" = some (some (.ref f14))) (l14 : K.lookup f14 = some ⟨oc14, od14, .func (PySem.W.fnOf "check_task" "check_task" (defArgs scheck_task) (defBody scheck_task) (defScope scheck_task) .none kV14 dc14 pm14 an14 cd14 ct14), sl14⟩) (c14 : PySem.W.codeIn K cd14 "check_task" = true) (k14 : PySem.W.keepIn K (.ref f14) = true)
    (a15 : PySem.W.nsIn K mainGlobals "looked_up" = some (some (.ref f15))) (l15 : K.lookup f15 = some ⟨oc15, od15, .func (PySem.W.fnOf "looked_up" "looked_up" (defArgs slooked_up) (defBody slooked_up) (defScope slooked_up) .none kV15 dc15 pm15 an15 cd15 ct15), sl15⟩) (c15 : PySem.W.codeIn K cd15 "looked_up" = true) (k15 : PySem.W.keepIn K (.ref f15) = true)
    (a16 : PySem.W.nsIn K mainGlobals "is_task" = some (some (.ref f16))) (l16 : K.lookup f16 = some ⟨oc16, od16, .func (PySem.W.fnOf "is_task" "is_task" (defArgs sis_task) (defBody sis_task) (defScope sis_task) .none kV16 dc16 pm16 an16 cd16 ct16), sl16⟩) (c16 : PySem.W.codeIn K cd16 "is_task" = true) (k16 : PySem.W.keepIn K (.ref f16) = true)
    (a17 : PySem.W.nsIn K mainGlobals "are_labels" = some (some (.ref f17))) (l17 : K.lookup f17 = some ⟨oc17, od17, .func (PySem.W.fnOf "are_labels" "are_labels" (defArgs sare_labels) (defBody sare_labels) (defScope sare_labels) .none kV17 dc17 pm17 an17 cd17 ct17), sl17⟩) (c17 : PySem.W.codeIn K cd17 "are_labels" = true) (k17 : PySem.W.keepIn K (.ref f17) = true)
    (a18 : PySem.W.nsIn K mainGlobals "_are_inputs" = some (some (.ref f18))) (l18 : K.lookup f18 = some ⟨oc18, od18, .func (PySem.W.fnOf "_are_inputs" "_are_inputs" (defArgs s_are_inputs) (defBody s_are_inputs) (defScope s_are_inputs) .none kV18 dc18 pm18 an18 cd18 ct18), sl18⟩) (c18 : PySem.W.codeIn K cd18 "_are_inputs" = true) (k18 : PySem.W.keepIn K (.ref f18) = true)
    (a19 : PySem.W.nsIn K mainGlobals "_are_rows" = some (some (.ref f19))) (l19 : K.lookup f19 = some ⟨oc19, od19, .func (PySem.W.fnOf "_are_rows" "_are_rows" (defArgs s_are_rows) (defBody s_are_rows) (defScope s_are_rows) .none kV19 dc19 pm19 an19 cd19 ct19), sl19⟩) (c19 : PySem.W.codeIn K cd19 "_are_rows" = true) (k19 : PySem.W.keepIn K (.ref f19) = true)
    (a20 : PySem.W.nsIn K mainGlobals "is_row" = some (some (.ref f20))) (l20 : K.lookup f20 = some ⟨oc20, od20, .func (PySem.W.fnOf "is_row" "is_row" (defArgs sis_row) (defBody sis_row) (defScope sis_row) .none kV20 dc20 pm20 an20 cd20 ct20), sl20⟩) (c20 : PySem.W.codeIn K cd20 "is_row" = true) (k20 : PySem.W.keepIn K (.ref f20) = true)
    (a22 : PySem.W.nsIn K mainGlobals "made_greatest" = some (some (.ref f22))) (l22 : K.lookup f22 = some ⟨oc22, od22, .func (PySem.W.fnOf "made_greatest" "made_greatest" (defArgs smade_greatest) (defBody smade_greatest) (defScope smade_greatest) .none kV22 dc22 pm22 an22 cd22 ct22), sl22⟩) (c22 : PySem.W.codeIn K cd22 "made_greatest" = true) (k22 : PySem.W.keepIn K (.ref f22) = true)
    (a23 : PySem.W.nsIn K mainGlobals "grown" = some (some (.ref f23))) (l23 : K.lookup f23 = some ⟨oc23, od23, .func (PySem.W.fnOf "grown" "grown" (defArgs sgrown) (defBody sgrown) (defScope sgrown) .none kV23 dc23 pm23 an23 cd23 ct23), sl23⟩) (c23 : PySem.W.codeIn K cd23 "grown" = true) (k23 : PySem.W.keepIn K (.ref f23) = true)
    (a24 : PySem.W.nsIn K mainGlobals "is_good" = some (some (.ref f24))) (l24 : K.lookup f24 = some ⟨oc24, od24, .func (PySem.W.fnOf "is_good" "is_good" (defArgs sis_good) (defBody sis_good) (defScope sis_good) .none kV24 dc24 pm24 an24 cd24 ct24), sl24⟩) (c24 : PySem.W.codeIn K cd24 "is_good" = true) (k24 : PySem.W.keepIn K (.ref f24) = true)
    (a26 : PySem.W.nsIn K mainGlobals "_law_draws" = some (some (.ref f26))) (l26 : K.lookup f26 = some ⟨oc26, od26, .func (PySem.W.fnOf "_law_draws" "_law_draws" (defArgs s_law_draws) (defBody s_law_draws) (defScope s_law_draws) .none kV26 dc26 pm26 an26 cd26 ct26), sl26⟩) (c26 : PySem.W.codeIn K cd26 "_law_draws" = true) (k26 : PySem.W.keepIn K (.ref f26) = true)
    (a27 : PySem.W.nsIn K mainGlobals "_law_take" = some (some (.ref f27))) (l27 : K.lookup f27 = some ⟨oc27, od27, .func (PySem.W.fnOf "_law_take" "_law_take" (defArgs s_law_take) (defBody s_law_take) (defScope s_law_take) .none kV27 dc27 pm27 an27 cd27 ct27), sl27⟩) (c27 : PySem.W.codeIn K cd27 "_law_take" = true) (k27 : PySem.W.keepIn K (.ref f27) = true)
    (a28 : PySem.W.nsIn K mainGlobals "_law_choices" = some (some (.ref f28))) (l28 : K.lookup f28 = some ⟨oc28, od28, .func (PySem.W.fnOf "_law_choices" "_law_choices" (defArgs s_law_choices) (defBody s_law_choices) (defScope s_law_choices) .none kV28 dc28 pm28 an28 cd28 ct28), sl28⟩) (c28 : PySem.W.codeIn K cd28 "_law_choices" = true) (k28 : PySem.W.keepIn K (.ref f28) = true)
    (a29 : PySem.W.nsIn K mainGlobals "_law_is_good" = some (some (.ref f29))) (l29 : K.lookup f29 = some ⟨oc29, od29, .func (PySem.W.fnOf "_law_is_good" "_law_is_good" (defArgs s_law_is_good) (defBody s_law_is_good) (defScope s_law_is_good) .none kV29 dc29 pm29 an29 cd29 ct29), sl29⟩) (c29 : PySem.W.codeIn K cd29 "_law_is_good" = true) (k29 : PySem.W.keepIn K (.ref f29) = true)
    (a30 : PySem.W.nsIn K mainGlobals "_law_is_greatest" = some (some (.ref f30))) (l30 : K.lookup f30 = some ⟨oc30, od30, .func (PySem.W.fnOf "_law_is_greatest" "_law_is_greatest" (defArgs s_law_is_greatest) (defBody s_law_is_greatest) (defScope s_law_is_greatest) .none kV30 dc30 pm30 an30 cd30 ct30), sl30⟩) (c30 : PySem.W.codeIn K cd30 "_law_is_greatest" = true) (k30 : PySem.W.keepIn K (.ref f30) = true)
    (a31 : PySem.W.nsIn K mainGlobals "_law_rows" = some (some (.ref f31))) (l31 : K.lookup f31 = some ⟨oc31, od31, .func (PySem.W.fnOf "_law_rows" "_law_rows" (defArgs s_law_rows) (defBody s_law_rows) (defScope s_law_rows) .none kV31 dc31 pm31 an31 cd31 ct31), sl31⟩) (c31 : PySem.W.codeIn K cd31 "_law_rows" = true) (k31 : PySem.W.keepIn K (.ref f31) = true)
    (a32 : PySem.W.nsIn K mainGlobals "_law_task" = some (some (.ref f32))) (l32 : K.lookup f32 = some ⟨oc32, od32, .func (PySem.W.fnOf "_law_task" "_law_task" (defArgs s_law_task) (defBody s_law_task) (defScope s_law_task) .none kV32 dc32 pm32 an32 cd32 ct32), sl32⟩) (c32 : PySem.W.codeIn K cd32 "_law_task" = true) (k32 : PySem.W.keepIn K (.ref f32) = true)
    (a33 : PySem.W.nsIn K mainGlobals "_law_sets" = some (some (.ref f33))) (l33 : K.lookup f33 = some ⟨oc33, od33, .func (PySem.W.fnOf "_law_sets" "_law_sets" (defArgs s_law_sets) (defBody s_law_sets) (defScope s_law_sets) .none kV33 dc33 pm33 an33 cd33 ct33), sl33⟩) (c33 : PySem.W.codeIn K cd33 "_law_sets" = true) (k33 : PySem.W.keepIn K (.ref f33) = true)
    (a34 : PySem.W.nsIn K mainGlobals "_law_shown" = some (some (.ref f34))) (l34 : K.lookup f34 = some ⟨oc34, od34, .func (PySem.W.fnOf "_law_shown" "_law_shown" (defArgs s_law_shown) (defBody s_law_shown) (defScope s_law_shown) .none kV34 dc34 pm34 an34 cd34 ct34), sl34⟩) (c34 : PySem.W.codeIn K cd34 "_law_shown" = true) (k34 : PySem.W.keepIn K (.ref f34) = true)
    (a35 : PySem.W.nsIn K mainGlobals "_law_due" = some (some (.ref f35))) (l35 : K.lookup f35 = some ⟨oc35, od35, .func (PySem.W.fnOf "_law_due" "_law_due" (defArgs s_law_due) (defBody s_law_due) (defScope s_law_due) .none kV35 dc35 pm35 an35 cd35 ct35), sl35⟩) (c35 : PySem.W.codeIn K cd35 "_law_due" = true) (k35 : PySem.W.keepIn K (.ref f35) = true)
    (a36 : PySem.W.nsIn K mainGlobals "_law_refused" = some (some (.ref f36))) (l36 : K.lookup f36 = some ⟨oc36, od36, .func (PySem.W.fnOf "_law_refused" "_law_refused" (defArgs s_law_refused) (defBody s_law_refused) (defScope s_law_refused) .none kV36 dc36 pm36 an36 cd36 ct36), sl36⟩) (c36 : PySem.W.codeIn K cd36 "_law_refused" = true) (k36 : PySem.W.keepIn K (.ref f36) = true)
    (a37 : PySem.W.nsIn K mainGlobals "_law_all" = some (some (.ref f37))) (l37 : K.lookup f37 = some ⟨oc37, od37, .func (PySem.W.fnOf "_law_all" "_law_all" (defArgs s_law_all) (defBody s_law_all) (defScope s_law_all) .none kV37 dc37 pm37 an37 cd37 ct37), sl37⟩) (c37 : PySem.W.codeIn K cd37 "_law_all" = true) (k37 : PySem.W.keepIn K (.ref f37) = true)
    (a38 : PySem.W.nsIn K mainGlobals "law" = some (some (.ref f38))) (l38 : K.lookup f38 = some ⟨oc38, od38, .func (PySem.W.fnOf "law" "law" (defArgs slaw) (defBody slaw) (defScope slaw) .none kV38 dc38 pm38 an38 cd38 ct38), sl38⟩) (c38 : PySem.W.codeIn K cd38 "law" = true) (k38 : PySem.W.keepIn K (.ref f38) = true)
    (gBadTask : PySem.W.nsIn K mainGlobals "BadTask" = some (some (.ref CBadTask))) (xBadTask : PySem.W.excIn K CBadTask [.type "ValueError", .type "Exception", .type "BaseException", .type "object"] "ValueError.__new__" = true) (kBadTask : PySem.W.keepIn K (.ref CBadTask) = true) (bBadTask : PySem.W.subIn K (.ref CBadTask) (.type "BaseException") = some true) (tBadTask : PySem.W.typeIn K (.ref CBadTask) = some (.type "type")) (iBadTask : PySem.W.isClsIn K CBadTask = true)
    (gLookError : PySem.W.nsIn K mainGlobals "LookError" = some (some (.ref CLookError))) (xLookError : PySem.W.excIn K CLookError [.type "ValueError", .type "Exception", .type "BaseException", .type "object"] "ValueError.__new__" = true) (kLookError : PySem.W.keepIn K (.ref CLookError) = true) (bLookError : PySem.W.subIn K (.ref CLookError) (.type "BaseException") = some true) (tLookError : PySem.W.typeIn K (.ref CLookError) = some (.type "type")) (iLookError : PySem.W.isClsIn K CLookError = true)
    (sBadTaskBadTask : PySem.W.subIn K (.ref CBadTask) (.ref CBadTask) = some true)
    (zabs : PySem.W.nsIn K mainGlobals "abs" = some none)
    (zint : PySem.W.nsIn K mainGlobals "int" = some none)
    (zlen : PySem.W.nsIn K mainGlobals "len" = some none)
    (zrange : PySem.W.nsIn K mainGlobals "range" = some none)
    (ztuple : PySem.W.nsIn K mainGlobals "tuple" = some none)
    (zisinstance : PySem.W.nsIn K mainGlobals "isinstance" = some none)
    (zbool : PySem.W.nsIn K mainGlobals "bool" = some none)
    (zrepr : PySem.W.nsIn K mainGlobals "repr" = some none)
    (zlist : PySem.W.nsIn K mainGlobals "list" = some none)
    (zall : PySem.W.nsIn K mainGlobals "all" = some none)
    (zzip : PySem.W.nsIn K mainGlobals "zip" = some none)
    (zsorted : PySem.W.nsIn K mainGlobals "sorted" = some none)
    (zset : PySem.W.nsIn K mainGlobals "set" = some none)
    (zstr : PySem.W.nsIn K mainGlobals "str" = some none)
    {tkLEAST_COLOURS : Tok} (qLEAST_COLOURS : PySem.W.nsIn K mainGlobals "LEAST_COLOURS" = some (some (.int 2 tkLEAST_COLOURS)))
    {tkMOST_COLOURS : Tok} (qMOST_COLOURS : PySem.W.nsIn K mainGlobals "MOST_COLOURS" = some (some (.int 4 tkMOST_COLOURS)))
    {tkMOST_INPUTS : Tok} (qMOST_INPUTS : PySem.W.nsIn K mainGlobals "MOST_INPUTS" = some (some (.int 4 tkMOST_INPUTS)))
    {tkMOST_LABELS : Tok} (qMOST_LABELS : PySem.W.nsIn K mainGlobals "MOST_LABELS" = some (some (.int 60 tkMOST_LABELS)))
    {tkMOST_ROWS : Tok} (qMOST_ROWS : PySem.W.nsIn K mainGlobals "MOST_ROWS" = some (some (.int 4000 tkMOST_ROWS)))
    (zsys : K.lookup sysModules = none) :
    ∃ fd : FuncData, K.lookup sysModules = none ∧ (∀ (s : Shared) (v : Value), BindsTo s fd ⟨[v], []⟩ [("script", v)]) ∧ ∀ base : Heap, K.In base → base.Ns mainGlobals mg → FnG l.prog w K mg base 10 fa fd ["script"] (spLaw K) := by
  have e := hfa.symm.trans (PySem.W.mg_of X G a38)
  cases e
  have B : Blt mg := ⟨PySem.W.mg_none_of X G zabs, PySem.W.mg_none_of X G zint, PySem.W.mg_none_of X G zlen, PySem.W.mg_none_of X G zrange, PySem.W.mg_none_of X G ztuple, PySem.W.mg_none_of X G zisinstance, PySem.W.mg_none_of X G zbool, PySem.W.mg_none_of X G zrepr, PySem.W.mg_none_of X G zlist, PySem.W.mg_none_of X G zall, PySem.W.mg_none_of X G zzip, PySem.W.mg_none_of X G zsorted, PySem.W.mg_none_of X G zset, PySem.W.mg_none_of X G zstr⟩
  have T : Cst mg := ⟨⟨_, PySem.W.mg_of X G qLEAST_COLOURS⟩, ⟨_, PySem.W.mg_of X G qMOST_COLOURS⟩, ⟨_, PySem.W.mg_of X G qMOST_INPUTS⟩, ⟨_, PySem.W.mg_of X G qMOST_LABELS⟩, ⟨_, PySem.W.mg_of X G qMOST_ROWS⟩⟩
  have eBadTask : Err K mg "BadTask" CBadTask := ⟨xBadTask, PySem.W.mg_of X G gBadTask, kBadTask, bBadTask, tBadTask⟩
  have eLookError : Err K mg "LookError" CLookError := ⟨xLookError, PySem.W.mg_of X G gLookError, kLookError, bLookError, tLookError⟩
  have hBadTaskBadTask := exm_of2 bBadTask iBadTask tBadTask sBadTaskBadTask
  have dis_number : Def K mg "is_number" sis_number ["value", "low", "high"] := def_mk X G a4 l4 c4 k4 fun _ _ _ _ _ _ us hl => match us, hl with | [_, _, _], _ => rfl
  have dproduct_of : Def K mg "product_of" sproduct_of ["numbers"] := def_mk X G a5 l5 c5 k5 fun _ _ _ _ _ _ us hl => match us, hl with | [_], _ => rfl
  have dchoices : Def K mg "choices" schoices ["lists"] := def_mk X G a7 l7 c7 k7 fun _ _ _ _ _ _ us hl => match us, hl with | [_], _ => rfl
  have dcheck_task : Def K mg "check_task" scheck_task ["task"] := def_mk X G a14 l14 c14 k14 fun _ _ _ _ _ _ us hl => match us, hl with | [_], _ => rfl
  have dlooked_up : Def K mg "looked_up" slooked_up ["inputs"] := def_mk X G a15 l15 c15 k15 fun _ _ _ _ _ _ us hl => match us, hl with | [_], _ => rfl
  have dis_task : Def K mg "is_task" sis_task ["task"] := def_mk X G a16 l16 c16 k16 fun _ _ _ _ _ _ us hl => match us, hl with | [_], _ => rfl
  have dare_labels : Def K mg "are_labels" sare_labels ["D", "labels"] := def_mk X G a17 l17 c17 k17 fun _ _ _ _ _ _ us hl => match us, hl with | [_, _], _ => rfl
  have d_are_inputs : Def K mg "_are_inputs" s_are_inputs ["allowed", "labels"] := def_mk X G a18 l18 c18 k18 fun _ _ _ _ _ _ us hl => match us, hl with | [_, _], _ => rfl
  have d_are_rows : Def K mg "_are_rows" s_are_rows ["rows", "labels"] := def_mk X G a19 l19 c19 k19 fun _ _ _ _ _ _ us hl => match us, hl with | [_, _], _ => rfl
  have dis_row : Def K mg "is_row" sis_row ["row", "labels"] := def_mk X G a20 l20 c20 k20 fun _ _ _ _ _ _ us hl => match us, hl with | [_, _], _ => rfl
  have dmade_greatest : Def K mg "made_greatest" smade_greatest ["task", "number", "sets"] := def_mk X G a22 l22 c22 k22 fun _ _ _ _ _ _ us hl => match us, hl with | [_, _, _], _ => rfl
  have dgrown : Def K mg "grown" sgrown ["allowed", "labels", "sets"] := def_mk X G a23 l23 c23 k23 fun _ _ _ _ _ _ us hl => match us, hl with | [_, _, _], _ => rfl
  have dis_good : Def K mg "is_good" sis_good ["allowed", "sets"] := def_mk X G a24 l24 c24 k24 fun _ _ _ _ _ _ us hl => match us, hl with | [_, _], _ => rfl
  have d_law_draws : Def K mg "_law_draws" s_law_draws ["script", "many"] := def_mk X G a26 l26 c26 k26 fun _ _ _ _ _ _ us hl => match us, hl with | [_, _], _ => rfl
  have d_law_take : Def K mg "_law_take" s_law_take ["hand", "many"] := def_mk X G a27 l27 c27 k27 fun _ _ _ _ _ _ us hl => match us, hl with | [_, _], _ => rfl
  have d_law_choices : Def K mg "_law_choices" s_law_choices ["lists"] := def_mk X G a28 l28 c28 k28 fun _ _ _ _ _ _ us hl => match us, hl with | [_], _ => rfl
  have d_law_is_good : Def K mg "_law_is_good" s_law_is_good ["rows", "sets"] := def_mk X G a29 l29 c29 k29 fun _ _ _ _ _ _ us hl => match us, hl with | [_, _], _ => rfl
  have d_law_is_greatest : Def K mg "_law_is_greatest" s_law_is_greatest ["rows", "labels", "sets"] := def_mk X G a30 l30 c30 k30 fun _ _ _ _ _ _ us hl => match us, hl with | [_, _, _], _ => rfl
  have d_law_rows : Def K mg "_law_rows" s_law_rows ["hand", "labels", "share"] := def_mk X G a31 l31 c31 k31 fun _ _ _ _ _ _ us hl => match us, hl with | [_, _, _], _ => rfl
  have d_law_task : Def K mg "_law_task" s_law_task ["hand"] := def_mk X G a32 l32 c32 k32 fun _ _ _ _ _ _ us hl => match us, hl with | [_], _ => rfl
  have d_law_sets : Def K mg "_law_sets" s_law_sets ["hand", "rows", "labels"] := def_mk X G a33 l33 c33 k33 fun _ _ _ _ _ _ us hl => match us, hl with | [_, _, _], _ => rfl
  have d_law_shown : Def K mg "_law_shown" s_law_shown ["hand", "sets"] := def_mk X G a34 l34 c34 k34 fun _ _ _ _ _ _ us hl => match us, hl with | [_, _], _ => rfl
  have d_law_due : Def K mg "_law_due" s_law_due ["rows", "labels", "sets"] := def_mk X G a35 l35 c35 k35 fun _ _ _ _ _ _ us hl => match us, hl with | [_, _, _], _ => rfl
  have d_law_refused : Def K mg "_law_refused" s_law_refused ["task", "sets"] := def_mk X G a36 l36 c36 k36 fun _ _ _ _ _ _ us hl => match us, hl with | [_, _], _ => rfl
  have d_law_all : Def K mg "_law_all" s_law_all ["script"] := def_mk X G a37 l37 c37 k37 fun _ _ _ _ _ _ us hl => match us, hl with | [_], _ => rfl
  refine ⟨PySem.W.fnOf "law" "law" (defArgs slaw) (defBody slaw) (defScope slaw) .none kV38 dc38 pm38 an38 cd38 ct38, zsys, fun s v => .of_eq rfl, fun base _ _ => ?_⟩
  have gtake : Has l.prog w K mg base CX0 1 "_law_take" ["hand", "many"] (spTake K) := d_law_take.has fun f fd F => ok_take B F
  have gdraws : Has l.prog w K mg base CX0 1 "_law_draws" ["script", "many"] (spDraws K) := d_law_draws.has fun f fd F => ok_draws B F
  have gnum : Has l.prog w K mg base CX0 1 "is_number" ["value", "low", "high"] (spNumber K) := dis_number.has fun f fd F => ok_number B F
  have grow : Has l.prog w K mg base CX0 2 "is_row" ["row", "labels"] (spRow K) := dis_row.has fun f fd F => ok_row B gnum F
  have grows : Has l.prog w K mg base CX0 3 "_are_rows" ["rows", "labels"] (spRows K) := d_are_rows.has fun f fd F => ok_rows B grow F
  have ginp : Has l.prog w K mg base CX0 4 "_are_inputs" ["allowed", "labels"] (spInputs K) := d_are_inputs.has fun f fd F => ok_inputs B T gnum grows F
  have gpr : Has l.prog w K mg base CX0 1 "product_of" ["numbers"] (spProduct K) := dproduct_of.has fun f fd F => ok_product F
  have glab : Has l.prog w K mg base CX0 2 "are_labels" ["D", "labels"] (spLabels K) := dare_labels.has fun f fd F => ok_labels B T gnum gpr F
  have gtb : Has l.prog w K mg base CX0 5 "is_task" ["task"] (spTaskB K) := dis_task.has fun f fd F => ok_taskb B glab ginp F
  have gct : Has l.prog w K mg base (L2.CX l.prog w) 6 "check_task" ["task"] (spCheckT K CBadTask) := dcheck_task.has fun f fd F => ok_checkt eBadTask gtb F
  have gch : Has l.prog w K mg base CX0 1 "choices" ["lists"] (spCh K) := dchoices.has fun f fd F => ok_choices F
  have glu : Has l.prog w K mg base CX0 1 "looked_up" ["inputs"] (spLooked K) := dlooked_up.has fun f fd F => ok_looked F
  have ggd : Has l.prog w K mg base CX0 2 "is_good" ["allowed", "sets"] (spGood K) := dis_good.has fun f fd F => ok_good B gch F
  have ggr : Has l.prog w K mg base CX0 3 "grown" ["allowed", "labels", "sets"] (spGrown K) := dgrown.has fun f fd F => ok_grown B ggd F
  have gmd : Has l.prog w K mg base (L2.CX l.prog w) 7 "made_greatest" ["task", "number", "sets"] (spMade K CBadTask) := dmade_greatest.has fun f fd F => ok_made B gct gnum glu ggr F
  have glc : Has l.prog w K mg base CX0 1 "_law_choices" ["lists"] (spChoices K) := d_law_choices.has fun f fd F => ok_choicesL F
  have glg : Has l.prog w K mg base CX0 2 "_law_is_good" ["rows", "sets"] (spLGood K) := d_law_is_good.has fun f fd F => ok_lgood B glc F
  have glgr : Has l.prog w K mg base CX0 3 "_law_is_greatest" ["rows", "labels", "sets"] (spLGreat K) := d_law_is_greatest.has fun f fd F => ok_lgreat B glg F
  have glr : Has l.prog w K mg base CX0 2 "_law_rows" ["hand", "labels", "share"] (spLRows K) := d_law_rows.has fun f fd F => ok_lrows B gtake glc F
  have glt : Has l.prog w K mg base CX0 3 "_law_task" ["hand"] (spLTask K) := d_law_task.has fun f fd F => ok_ltask B gtake glr F
  have gls : Has l.prog w K mg base CX0 2 "_law_sets" ["hand", "rows", "labels"] (spLSets K) := d_law_sets.has fun f fd F => ok_lsets B gtake F
  have glsh : Has l.prog w K mg base CX0 2 "_law_shown" ["hand", "sets"] (spLShown K) := d_law_shown.has fun f fd F => ok_lshown B gtake F
  have gldu : Has l.prog w K mg base CX0 3 "_law_due" ["rows", "labels", "sets"] (spLDue K) := d_law_due.has fun f fd F => ok_ldue B glg F
  have grf : Has l.prog w K mg base CX0 8 "_law_refused" ["task", "sets"] (spRefused K) := d_law_refused.has fun f fd F => ok_refused eBadTask hBadTaskBadTask gmd F
  have gall : HasG l.prog w K mg base 9 "_law_all" ["script"] (spLaw K) := d_law_all.hasG fun f fd F => ok_all B gdraws gtake glt gls gldu glsh gmd glgr grf F
  exact ok_law B eLookError gall (fun_mk l38 c38 k38)
end Lw
open PySem PySem.W PyProof.Rows
set_option maxRecDepth 100000 in
set_option maxHeartbeats 0 in
theorem PySem.Challenge.cw_looksfar_k13_made_greatest_holds : PySem.Challenge.rw_looksfar_k13_made_greatest.Holds := by
  w_on; o_law; k_head; (case hw => w_witness2)
  k_fill
  refine LG.walk_S (l := PySem.Challenge.rw_looksfar_k13_made_greatest) (n := 63) (k := 10) (sp := Lw.spLaw) (x := "script") rfl (by decide) rfl ⟨rfl, by decide, by decide⟩ (by decide +kernel) (fun w h Y => PySem.W.kIn_of Y) ?F (fun K H a ns hl S hS => ⟨a, ns, rfl, hS, hl, S, fun _ => rfl⟩)
  case F =>
    intro w mg fa h KX G hmg
    refine' Lw.all_mk KX G hmg ?a4 ?l4 ?c4 ?k4 ?a5 ?l5 ?c5 ?k5 ?a7 ?l7 ?c7 ?k7 ?a14 ?l14 ?c14 ?k14 ?a15 ?l15 ?c15 ?k15 ?a16 ?l16 ?c16 ?k16 ?a17 ?l17 ?c17 ?k17 ?a18 ?l18 ?c18 ?k18 ?a19 ?l19 ?c19 ?k19 ?a20 ?l20 ?c20 ?k20 ?a22 ?l22 ?c22 ?k22 ?a23 ?l23 ?c23 ?k23 ?a24 ?l24 ?c24 ?k24 ?a26 ?l26 ?c26 ?k26 ?a27 ?l27 ?c27 ?k27 ?a28 ?l28 ?c28 ?k28 ?a29 ?l29 ?c29 ?k29 ?a30 ?l30 ?c30 ?k30 ?a31 ?l31 ?c31 ?k31 ?a32 ?l32 ?c32 ?k32 ?a33 ?l33 ?c33 ?k33 ?a34 ?l34 ?c34 ?k34 ?a35 ?l35 ?c35 ?k35 ?a36 ?l36 ?c36 ?k36 ?a37 ?l37 ?c37 ?k37 ?a38 ?l38 ?c38 ?k38 ?gBadTask ?xBadTask ?kBadTask ?bBadTask ?tBadTask ?iBadTask ?gLookError ?xLookError ?kLookError ?bLookError ?tLookError ?iLookError ?sBadTaskBadTask ?zabs ?zint ?zlen ?zrange ?ztuple ?zisinstance ?zbool ?zrepr ?zlist ?zall ?zzip ?zsorted ?zset ?zstr ?qLEAST_COLOURS ?qMOST_COLOURS ?qMOST_INPUTS ?qMOST_LABELS ?qMOST_ROWS ?zsys
    (case a4 => k_is)
    (case l4 => k_is)
    (case c4 => k_is)
    (case k4 => k_is)
    (case a5 => k_is)
    (case l5 => k_is)
    (case c5 => k_is)
    (case k5 => k_is)
    (case a7 => k_is)
    (case l7 => k_is)
    (case c7 => k_is)
    (case k7 => k_is)
    (case a14 => k_is)
    (case l14 => k_is)
    (case c14 => k_is)
    (case k14 => k_is)
    (case a15 => k_is)
    (case l15 => k_is)
    (case c15 => k_is)
    (case k15 => k_is)
    (case a16 => k_is)
    (case l16 => k_is)
    (case c16 => k_is)
    (case k16 => k_is)
    (case a17 => k_is)
    (case l17 => k_is)
    (case c17 => k_is)
    (case k17 => k_is)
    (case a18 => k_is)
    (case l18 => k_is)
    (case c18 => k_is)
    (case k18 => k_is)
    (case a19 => k_is)
    (case l19 => k_is)
    (case c19 => k_is)
    (case k19 => k_is)
    (case a20 => k_is)
    (case l20 => k_is)
    (case c20 => k_is)
    (case k20 => k_is)
    (case a22 => k_is)
    (case l22 => k_is)
    (case c22 => k_is)
    (case k22 => k_is)
    (case a23 => k_is)
    (case l23 => k_is)
    (case c23 => k_is)
    (case k23 => k_is)
    (case a24 => k_is)
    (case l24 => k_is)
    (case c24 => k_is)
    (case k24 => k_is)
    (case a26 => k_is)
    (case l26 => k_is)
    (case c26 => k_is)
    (case k26 => k_is)
    (case a27 => k_is)
    (case l27 => k_is)
    (case c27 => k_is)
    (case k27 => k_is)
    (case a28 => k_is)
    (case l28 => k_is)
    (case c28 => k_is)
    (case k28 => k_is)
    (case a29 => k_is)
    (case l29 => k_is)
    (case c29 => k_is)
    (case k29 => k_is)
    (case a30 => k_is)
    (case l30 => k_is)
    (case c30 => k_is)
    (case k30 => k_is)
    (case a31 => k_is)
    (case l31 => k_is)
    (case c31 => k_is)
    (case k31 => k_is)
    (case a32 => k_is)
    (case l32 => k_is)
    (case c32 => k_is)
    (case k32 => k_is)
    (case a33 => k_is)
    (case l33 => k_is)
    (case c33 => k_is)
    (case k33 => k_is)
    (case a34 => k_is)
    (case l34 => k_is)
    (case c34 => k_is)
    (case k34 => k_is)
    (case a35 => k_is)
    (case l35 => k_is)
    (case c35 => k_is)
    (case k35 => k_is)
    (case a36 => k_is)
    (case l36 => k_is)
    (case c36 => k_is)
    (case k36 => k_is)
    (case a37 => k_is)
    (case l37 => k_is)
    (case c37 => k_is)
    (case k37 => k_is)
    (case a38 => k_is)
    (case l38 => k_is)
    (case c38 => k_is)
    (case k38 => k_is)
    (case gBadTask => k_is)
    (case xBadTask => k_exc)
    (case kBadTask => k_is)
    (case bBadTask => k_is)
    (case tBadTask => k_is)
    (case iBadTask => k_is)
    (case gLookError => k_is)
    (case xLookError => k_exc)
    (case kLookError => k_is)
    (case bLookError => k_is)
    (case tLookError => k_is)
    (case iLookError => k_is)
    (case sBadTaskBadTask => first | rfl | k_is)
    (case zabs => k_is)
    (case zint => k_is)
    (case zlen => k_is)
    (case zrange => k_is)
    (case ztuple => k_is)
    (case zisinstance => k_is)
    (case zbool => k_is)
    (case zrepr => k_is)
    (case zlist => k_is)
    (case zall => k_is)
    (case zzip => k_is)
    (case zsorted => k_is)
    (case zset => k_is)
    (case zstr => k_is)
    (case qLEAST_COLOURS => k_is)
    (case qMOST_COLOURS => k_is)
    (case qMOST_INPUTS => k_is)
    (case qMOST_LABELS => k_is)
    (case qMOST_ROWS => k_is)
    (case zsys => rfl)
