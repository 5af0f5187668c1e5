import PyProof.Rows.All
import HandS.ForExc
import HandS.ForMost
import HandS.Wide
import HandS.Zip
import HandS.IsInst
import HandS.WideMore
import HandS.WideBits
import KE.GoesMore
import KE.GoesEnum
import HandS.NoneIn
import HandS.Star
import HandS.SlotsOwn
import HandS.OwnEq
import HandS.Codes
import OpenK.KMeth
import KE.KOpsOwn
import PySem.Challenge.RW_signedpacts_k19_need_round_counts
set_option Elab.async false
set_option linter.all false
set_option maxRecDepth 100000
/-! The data layer: what a def does, told over plain data (no heap in what is read). -/
namespace DL
open PySem PySem.Spec L2

/-- plain data that never changes -/
inductive P where
  | non | bl (b : Bool) | int (i : Int) | str (s : Str) | ob (a : Addr) | ty (n : String)
  | lst (xs : List P) | rol (xs : List P) | tup (xs : List P) | ins (C : Addr) (fs : List (Str × P))
/-- what a slot of a def holds: plain data, or a list that is the slot's own -/
inductive D where
  | sh (p : P) | ol (ps : List P) | oll (pss : List (List P)) | oi (C : Addr) (fs : List (Str × P))

def Ex (B H : Hp) : Prop := ∀ a o, B a = some o → H a = some o
theorem Ex.refl (H : Hp) : Ex H H := fun _ _ h => h
theorem Ex.trans {H H1 H2 : Hp} (a : Ex H H1) (b : Ex H1 H2) : Ex H H2 := fun x o h => b x o (a x o h)
theorem Ex.rd {H H' : Hp} {a : Addr} {u : HO} (e : Ex H H') (h : Rd H a u) : Rd H' a u := by
  rcases h with h | ⟨o, h⟩
  · exact Or.inl (e a _ h)
  · exact Or.inr ⟨o, e a _ h⟩
theorem Ex.sqL {K : PySem.W.Frag} {H H' : Hp} {a : Addr} {xs : List V} (e : Ex H H') (h : SqL K H a xs) : SqL K H' a xs := by
  rcases h with h | h
  · exact Or.inl (e.rd h)
  · exact Or.inr h
theorem Ex.sqT {K : PySem.W.Frag} {H H' : Hp} {a : Addr} {xs : List V} (e : Ex H H') (h : SqT K H a xs) : SqT K H' a xs := by
  rcases h with h | h
  · exact Or.inl (e.rd h)
  · exact Or.inr h
theorem Ex.back {H H' : Hp} {p : Addr} (e : Ex H H') (h : H' p = none) : H p = none := by
  cases h1 : H p with
  | none => rfl
  | some o => rw [e p o h1] at h; cases h

/-! ### how data lies in the heap -/
section
variable (K : PySem.W.Frag) (B : Hp)
mutual
/-- v is the datum, by what stands in B -/
def Rp : P → V → Prop
  | .non, v => v = .non
  | .bl b, v => v = .bl b
  | .int i, v => v = .int i
  | .str s, v => v = .str s
  | .ob a, v => v = .ref a
  | .ty n, v => v = .ty n
  | .lst xs, v => ∃ a vs, v = .ref a ∧ B a = some (.lst vs) ∧ RpA xs vs
  | .rol xs, v => ∃ a vs, v = .ref a ∧ SqL K B a vs ∧ RpA xs vs
  | .tup xs, v => ∃ a vs, v = .ref a ∧ SqT K B a vs ∧ RpA xs vs
  | .ins C fs, v => ∃ a dx fv, v = .ref a ∧ B a = some (.ins C dx fv) ∧ RpF fs fv
def RpA : List P → List V → Prop
  | [], vs => vs = []
  | p :: ps, vs => ∃ v r, vs = v :: r ∧ Rp p v ∧ RpA ps r
def RpF : List (Str × P) → List (Str × V) → Prop
  | [], vs => vs = []
  | (n, p) :: ps, vs => ∃ v r, vs = (n, v) :: r ∧ Rp p v ∧ RpF ps r
end
end
section
variable {K : PySem.W.Frag} {B B' H : Hp}
mutual
theorem Rp.mono (e : Ex B B') : ∀ (p : P) {v : V}, Rp K B p v → Rp K B' p v
  | .non, _, h => h
  | .bl _, _, h => h
  | .int _, _, h => h
  | .str _, _, h => h
  | .ob _, _, h => h
  | .ty _, _, h => h
  | .lst xs, _, ⟨a, vs, e1, e2, e3⟩ => ⟨a, vs, e1, e a _ e2, RpA.mono e xs e3⟩
  | .rol xs, _, ⟨a, vs, e1, e2, e3⟩ => ⟨a, vs, e1, e.sqL e2, RpA.mono e xs e3⟩
  | .tup xs, _, ⟨a, vs, e1, e2, e3⟩ => ⟨a, vs, e1, e.sqT e2, RpA.mono e xs e3⟩
  | .ins C fs, _, ⟨a, dx, fv, e1, e2, e3⟩ => ⟨a, dx, fv, e1, e a _ e2, RpF.mono e fs e3⟩
theorem RpA.mono (e : Ex B B') : ∀ (ps : List P) {vs : List V}, RpA K B ps vs → RpA K B' ps vs
  | [], _, h => h
  | p :: ps, _, ⟨v, r, e1, e2, e3⟩ => ⟨v, r, e1, Rp.mono e p e2, RpA.mono e ps e3⟩
theorem RpF.mono (e : Ex B B') : ∀ (ps : List (Str × P)) {vs : List (Str × V)}, RpF K B ps vs → RpF K B' ps vs
  | [], _, h => h
  | (_, p) :: ps, _, ⟨v, r, e1, e2, e3⟩ => ⟨v, r, e1, Rp.mono e p e2, RpF.mono e ps e3⟩
end
theorem RpA.length : ∀ {ps : List P} {vs : List V}, RpA K B ps vs → vs.length = ps.length
  | [], _, h => by rw [show _ = [] from h]; rfl
  | p :: ps, _, ⟨v, r, e1, _, e3⟩ => by rw [e1, List.length_cons, List.length_cons, RpA.length e3]
theorem RpA.get : ∀ {ps : List P} {vs : List V} {i : Nat} {p : P}, RpA K B ps vs → ps[i]? = some p → ∃ v, vs[i]? = some v ∧ Rp K B p v
  | [], _, _, _, _, h => by simp at h
  | p :: ps, _, 0, q, ⟨v, r, e1, e2, e3⟩, h => by
    have e : p = q := Option.some.inj h
    subst e
    exact ⟨v, by rw [e1]; rfl, e2⟩
  | p :: ps, _, i + 1, q, ⟨v, r, e1, e2, e3⟩, h => by
    obtain ⟨u, h1, h2⟩ := RpA.get (i := i) (p := q) e3 h
    exact ⟨u, by rw [e1]; exact h1, h2⟩
theorem RpA.append : ∀ {ps qs : List P} {vs ws : List V}, RpA K B ps vs → RpA K B qs ws → RpA K B (ps ++ qs) (vs ++ ws)
  | [], _, _, _, h, g => by rw [show _ = [] from h]; exact g
  | p :: ps, qs, _, ws, ⟨v, r, e1, e2, e3⟩, g => ⟨v, r ++ ws, by rw [e1]; rfl, e2, RpA.append e3 g⟩
theorem RpA.one {p : P} {v : V} (h : Rp K B p v) : RpA K B [p] [v] := ⟨v, [], rfl, h, rfl⟩
theorem RpA.set : ∀ {ps : List P} {vs : List V} {i : Nat} {p : P} {v : V}, RpA K B ps vs → Rp K B p v → RpA K B (ps.set i p) (vs.set i v)
  | [], _, _, _, _, h, _ => by rw [show _ = [] from h]; rfl
  | p :: ps, _, 0, q, u, ⟨v, r, e1, e2, e3⟩, h => by rw [e1]; exact ⟨u, r, rfl, h, e3⟩
  | p :: ps, _, i + 1, q, u, ⟨v, r, e1, e2, e3⟩, h => by rw [e1]; exact ⟨v, r.set i u, rfl, e2, RpA.set e3 h⟩
theorem RpA.take : ∀ {ps : List P} {vs : List V} (n : Nat), RpA K B ps vs → RpA K B (ps.take n) (vs.take n)
  | _, _, 0, _ => by simp [RpA]
  | [], _, n + 1, h => by rw [show _ = [] from h]; rfl
  | p :: ps, _, n + 1, ⟨v, r, e1, e2, e3⟩ => by rw [e1]; exact ⟨v, r.take n, rfl, e2, RpA.take n e3⟩
theorem RpA.drop : ∀ {ps : List P} {vs : List V} (n : Nat), RpA K B ps vs → RpA K B (ps.drop n) (vs.drop n)
  | _, _, 0, h => h
  | [], _, n + 1, h => by rw [show _ = [] from h]; rfl
  | p :: ps, _, n + 1, ⟨v, r, e1, e2, e3⟩ => by rw [e1]; exact RpA.drop n e3
theorem RpA.reverse : ∀ {ps : List P} {vs : List V}, RpA K B ps vs → RpA K B ps.reverse vs.reverse
  | [], _, h => by rw [show _ = [] from h]; rfl
  | p :: ps, _, ⟨v, r, e1, e2, e3⟩ => by
    rw [e1, List.reverse_cons, List.reverse_cons]
    exact RpA.append (RpA.reverse e3) (RpA.one e2)
theorem RpA.rep {p : P} {v : V} (h : Rp K B p v) : ∀ n : Nat, RpA K B (List.replicate n p) (List.replicate n v)
  | 0 => rfl
  | n + 1 => ⟨v, List.replicate n v, rfl, h, RpA.rep h n⟩
theorem RpA.ints : ∀ {ns : List Int}, RpA K B (ns.map P.int) (ns.map V.int)
  | [] => rfl
  | n :: ns => ⟨V.int n, ns.map V.int, rfl, rfl, RpA.ints⟩
theorem RpA.ints_inv : ∀ {ns : List Int} {vs : List V}, RpA K B (ns.map P.int) vs → vs = ns.map V.int
  | [], _, h => h
  | n :: ns, _, ⟨v, r, e1, e2, e3⟩ => by rw [e1, RpA.ints_inv e3, show v = V.int n from e2]; rfl
end

/-- what a slot holds, and the objects that are its own -/
def RpD (K : PySem.W.Frag) (B H : Hp) : D → V → List Addr → Prop
  | .sh p, v, F => F = [] ∧ Rp K B p v
  | .ol ps, v, F => ∃ a vs, F = [a] ∧ v = .ref a ∧ H a = some (.lst vs) ∧ RpA K B ps vs
  | .oll pss, v, F => ∃ a as, F = a :: as ∧ v = .ref a ∧ H a = some (.lst (as.map V.ref)) ∧ as.length = pss.length ∧
      ∀ (i : Nat) (b : Addr) (ps : List P), as[i]? = some b → pss[i]? = some ps → ∃ vs, H b = some (.lst vs) ∧ RpA K B ps vs
  | .oi C fs, v, F => ∃ a dx fv, F = [a, dx] ∧ v = .ref a ∧ H a = some (.ins C dx fv) ∧ H dx = some (.own a) ∧ RpF K B fs fv
theorem RpD.mono {K : PySem.W.Frag} {B B' H H' : Hp} (e : Ex B B') : ∀ {d : D} {v : V} {F : List Addr}, RpD K B H d v F → (∀ a ∈ F, ∀ o, H a = some o → H' a = some o) → RpD K B' H' d v F
  | .sh p, _, _, ⟨e1, e2⟩, _ => ⟨e1, Rp.mono e p e2⟩
  | .ol ps, _, _, ⟨a, vs, e1, e2, e3, e4⟩, k => ⟨a, vs, e1, e2, k a (by rw [e1]; exact List.mem_cons_self) _ e3, RpA.mono e ps e4⟩
  | .oll pss, _, _, ⟨a, as, e1, e2, e3, e4, e5⟩, k => ⟨a, as, e1, e2, k a (by rw [e1]; exact List.mem_cons_self) _ e3, e4, fun i b ps h1 h2 => by
    obtain ⟨vs, g1, g2⟩ := e5 i b ps h1 h2
    exact ⟨vs, k b (by rw [e1]; exact List.mem_cons_of_mem _ (List.mem_of_getElem? h1)) _ g1, RpA.mono e ps g2⟩⟩
  | .oi C fs, _, _, ⟨a, dx, fv, e1, e2, e3, e4, e5⟩, k => ⟨a, dx, fv, e1, e2, k a (by rw [e1]; exact List.mem_cons_self) _ e3, k dx (by rw [e1]; exact List.mem_cons_of_mem _ List.mem_cons_self) _ e4, RpF.mono e fs e5⟩
theorem RpD.there {K : PySem.W.Frag} {B H : Hp} : ∀ {d : D} {v : V} {F : List Addr}, RpD K B H d v F → ∀ a ∈ F, ∃ o, H a = some o
  | .sh p, _, _, ⟨e1, _⟩, a, h => by rw [e1] at h; cases h
  | .ol ps, _, _, ⟨a, vs, e1, e2, e3, e4⟩, b, h => by
    rw [e1] at h
    rw [List.mem_singleton.mp h]
    exact ⟨_, e3⟩
  | .oll pss, _, _, ⟨a, as, e1, e2, e3, e4, e5⟩, b, h => by
    rw [e1] at h
    rcases List.mem_cons.mp h with h | h
    · rw [h]; exact ⟨_, e3⟩
    · obtain ⟨i, hi, e⟩ := List.getElem_of_mem h
      have h2 : pss[i]? = some (pss[i]'(by omega)) := List.getElem?_eq_getElem _
      obtain ⟨vs, g1, _⟩ := e5 i b _ (by rw [List.getElem?_eq_getElem hi, e]) h2
      exact ⟨_, g1⟩
  | .oi C fs, _, _, ⟨a, dx, fv, e1, e2, e3, e4, e5⟩, b, h => by
    rw [e1] at h
    rcases List.mem_cons.mp h with h | h
    · rw [h]; exact ⟨_, e3⟩
    · rw [List.mem_singleton.mp h]; exact ⟨_, e4⟩

/-- a slot's own list becomes plain data -/
def D.frz : D → P
  | .sh p => p
  | .ol ps => .lst ps
  | .oll pss => .lst (pss.map P.lst)
  | .oi C fs => .ins C fs

abbrev Env := List (Option D)
abbrev Fp := Nat → List Addr

/-- the world: B what is plain and stays, H all; each slot's own objects -/
structure Wd (K : PySem.W.Frag) (B H : Hp) (σ : St) (env : Env) (G : Fp) : Prop where
  ex : Ex B H
  sl : ∀ i d, env[i]? = some (some d) → ∃ v, σ[i]? = some (some v) ∧ RpD K B H d v (G i)
  no : ∀ i, (∀ d, env[i]? ≠ some (some d)) → G i = []
  nd : ∀ i, (G i).Nodup
  dj : ∀ i j a, a ∈ G i → a ∈ G j → i = j
  nb : ∀ i a, a ∈ G i → B a = none
  len : env.length = σ.length
/-- one world behind another -/
structure Stp (B H : Hp) (G : Fp) (B' H' : Hp) (G' : Fp) : Prop where
  ex : Ex B B'
  kp : ∀ a o, H a = some o → (∀ i, a ∉ G i) → H' a = some o
  fp : ∀ i a, a ∈ G' i → (∃ j, a ∈ G j) ∨ H a = none
  bs : ∀ a o, H a = some o → B a = none → (∀ i, a ∉ G i) → B' a = none
  th : ∀ a o, H a = some o → ∃ o', H' a = some o'
theorem Stp.refl {B H : Hp} {G : Fp} : Stp B H G B H G := ⟨Ex.refl _, fun _ _ h _ => h, fun i _ h => .inl ⟨i, h⟩, fun _ _ _ h _ => h, fun _ o h => ⟨o, h⟩⟩
theorem Stp.back {B H B' H' : Hp} {G G' : Fp} (s : Stp B H G B' H' G') {a : Addr} (h : H' a = none) : H a = none := by
  cases hh : H a with
  | none => rfl
  | some o =>
    obtain ⟨o', e⟩ := s.th a o hh
    rw [e] at h; cases h
theorem Stp.trans {B H B1 H1 B2 H2 : Hp} {G G1 G2 : Fp} (a : Stp B H G B1 H1 G1) (b : Stp B1 H1 G1 B2 H2 G2) : Stp B H G B2 H2 G2 where
  ex := a.ex.trans b.ex
  kp := fun x o h n => b.kp x o (a.kp x o h n) fun i hi => by
    rcases a.fp i x hi with ⟨j, hj⟩ | hn
    · exact n j hj
    · rw [h] at hn; cases hn
  fp := fun i x h => by
    rcases b.fp i x h with ⟨j, hj⟩ | hn
    · exact a.fp j x hj
    · by_cases hx : ∃ j, x ∈ G j
      · exact .inl hx
      · right
        cases hh : H x with
        | none => rfl
        | some o => rw [a.kp x o hh fun i hi => hx ⟨i, hi⟩] at hn; cases hn
  bs := fun x o h hb n => by
    refine b.bs x o (a.kp x o h n) (a.bs x o h hb n) fun i hi => ?_
    rcases a.fp i x hi with ⟨j, hj⟩ | hn
    · exact n j hj
    · rw [h] at hn; cases hn
  th := fun x o h => by
    obtain ⟨o', h1⟩ := a.th x o h
    exact b.th x o' h1
/-- behind what changes nothing -/
structure Gr (B H B' H' : Hp) : Prop where
  b : Ex B B'
  h : Ex H H'
  w : Ex B' H'
  n : ∀ a o, H a = some o → B a = none → B' a = none
theorem Gr.refl {B H : Hp} (e : Ex B H) : Gr B H B H := ⟨Ex.refl _, Ex.refl _, e, fun _ _ _ h => h⟩
theorem Gr.trans {B H B1 H1 B2 H2 : Hp} (a : Gr B H B1 H1) (b : Gr B1 H1 B2 H2) : Gr B H B2 H2 := ⟨a.b.trans b.b, a.h.trans b.h, b.w, fun x o h n => b.n x o (a.h x o h) (a.n x o h n)⟩
theorem Gr.stp {B H B' H' : Hp} {G : Fp} (g : Gr B H B' H') : Stp B H G B' H' G := ⟨g.b, fun a o h _ => g.h a o h, fun i _ h => .inl ⟨i, h⟩, fun a o h n _ => g.n a o h n, fun a o h => ⟨o, g.h a o h⟩⟩
theorem Wd.gr {K : PySem.W.Frag} {B H B' H' : Hp} {σ : St} {env : Env} {G : Fp} (w : Wd K B H σ env G) (g : Gr B H B' H') : Wd K B' H' σ env G where
  ex := g.w
  sl := fun i d e => by
    obtain ⟨v, h1, h2⟩ := w.sl i d e
    exact ⟨v, h1, RpD.mono g.b h2 fun a _ o h => g.h a o h⟩
  no := w.no
  nd := w.nd
  dj := w.dj
  nb := fun i a h => by
    by_cases hx : ∃ d, env[i]? = some (some d)
    · obtain ⟨d, e⟩ := hx
      obtain ⟨v, h1, h2⟩ := w.sl i d e
      obtain ⟨o, ho⟩ := RpD.there h2 a h
      exact g.n a o ho (w.nb i a h)
    · rw [w.no i fun d e => hx ⟨d, e⟩] at h; cases h
  len := w.len
/-- a new object, plain -/
theorem gr_new {B H : Hp} {p : Addr} {o : HO} (e : Ex B H) (h : H p = none) : Gr B H (upd B p o) (upd H p o) where
  b := fun a u k => by rw [upd_ne (ne_of_none k (e.back h))]; exact k
  h := fun a u k => by rw [upd_ne (ne_of_none k h)]; exact k
  w := fun a u k => by
    by_cases ha : a = p
    · subst ha; rw [upd_same] at k ⊢; exact k
    · rw [upd_ne ha] at k ⊢; exact e a u k
  n := fun a u k n => by rw [upd_ne (ne_of_none k h)]; exact n
end DL
set_option Elab.async false
set_option linter.all false
set_option maxRecDepth 100000
namespace DL
open PySem PySem.Spec L2
abbrev dE := Env → (P → Env → Prop) → Prop
abbrev dT := Env → (Bool → Env → Prop) → Prop
abbrev dO := Env → (D → Env → Prop) → Prop
abbrev AR := Sum P Nat
abbrev dA := Env → (List AR → Env → Prop) → Prop
/-- in the pure mode nothing of the slots changes -/
def Pure (m : Bool) (env env' : Env) (G G' : Fp) (B H B' H' : Hp) : Prop := m = true → env' = env ∧ G' = G ∧ Gr B H B' H'
theorem Pure.trans {m : Bool} {e e1 e2 : Env} {G G1 G2 : Fp} {B H B1 H1 B2 H2 : Hp} (a : Pure m e e1 G G1 B H B1 H1) (b : Pure m e1 e2 G1 G2 B1 H1 B2 H2) : Pure m e e2 G G2 B H B2 H2 := fun h => by
  obtain ⟨rfl, rfl, g⟩ := a h
  obtain ⟨rfl, rfl, g2⟩ := b h
  exact ⟨rfl, rfl, g.trans g2⟩
theorem Pure.gr {m : Bool} {e : Env} {G : Fp} {B H B1 H1 : Hp} (g : Gr B H B1 H1) : Pure m e e G G B H B1 H1 := fun _ => ⟨rfl, rfl, g⟩

theorem Wd.off {K : PySem.W.Frag} {B H : Hp} {σ : L2.St} {env : Env} {G : Fp} (w : Wd K B H σ env G) {a : Addr} (h : H a = none) (i : Nat) (hi : a ∈ G i) : False := by
  by_cases hx : ∃ d, env[i]? = some (some d)
  · obtain ⟨d, hd⟩ := hx
    obtain ⟨v', h1, h2⟩ := w.sl i d hd
    obtain ⟨o, ho⟩ := RpD.there h2 a hi
    rw [h] at ho; cases ho
  · rw [w.no i fun d e => hx ⟨d, e⟩] at hi; cases hi
structure SndE (m : Bool) (K : PySem.W.Frag) (te : TE) (de : dE) : Prop where
  run : ∀ {B H : Hp} {σ : L2.St} {env : Env} {G : Fp} {QD : P → Env → Prop} {Q : VK}, Wd K B H σ env G → de env QD →
    (∀ p env' v B' H' G', QD p env' → Wd K B' H' σ env' G' → Rp K B' p v → Stp B H G B' H' G' → Pure m env env' G G' B H B' H' → Q v H') → te σ H Q
structure SndT (m : Bool) (K : PySem.W.Frag) (te : TT) (de : dT) : Prop where
  run : ∀ {B H : Hp} {σ : L2.St} {env : Env} {G : Fp} {QD : Bool → Env → Prop} {Q : Bool → Hp → Prop}, Wd K B H σ env G → de env QD →
    (∀ b env' B' H' G', QD b env' → Wd K B' H' σ env' G' → Stp B H G B' H' G' → Pure m env env' G G' B H B' H' → Q b H') → te σ H Q
/-- something new that is the slot's own -/
structure Own (K : PySem.W.Frag) (H : Hp) (G : Fp) (B' H' : Hp) (G' : Fp) (d : D) (v : V) (F : List Addr) : Prop where
  rp : RpD K B' H' d v F
  nd : F.Nodup
  nb : ∀ a ∈ F, B' a = none
  nw : ∀ a ∈ F, (∃ j, a ∈ G j) ∨ H a = none
  ap : ∀ a ∈ F, ∀ i, a ∉ G' i
structure SndO (m : Bool) (K : PySem.W.Frag) (te : TE) (de : dO) : Prop where
  run : ∀ {B H : Hp} {σ : L2.St} {env : Env} {G : Fp} {QD : D → Env → Prop} {Q : VK}, Wd K B H σ env G → de env QD →
    (∀ d env' v F B' H' G', QD d env' → Wd K B' H' σ env' G' → Own K H G B' H' G' d v F → Stp B H G B' H' G' → Pure m env env' G G' B H B' H' → Q v H') → te σ H Q
def RpX (K : PySem.W.Frag) (B : Hp) (σ : L2.St) : List AR → List V → Prop
  | [], vs => vs = []
  | .inl p :: as, vs => ∃ v r, vs = v :: r ∧ Rp K B p v ∧ RpX K B σ as r
  | .inr i :: as, vs => ∃ v r, vs = v :: r ∧ σ[i]? = some (some v) ∧ RpX K B σ as r
structure SndA (m : Bool) (K : PySem.W.Frag) (te : TA) (de : dA) : Prop where
  run : ∀ {B H : Hp} {σ : L2.St} {env : Env} {G : Fp} {QD : List AR → Env → Prop} {Q : List V → Hp → Prop}, Wd K B H σ env G → de env QD →
    (∀ as env' vs B' H' G', QD as env' → Wd K B' H' σ env' G' → RpX K B' σ as vs → Stp B H G B' H' G' → Pure m env env' G G' B H B' H' → Q vs H') → te σ H Q
theorem RpX.mono {K : PySem.W.Frag} {B B' : Hp} {σ : L2.St} (e : Ex B B') : ∀ {as : List AR} {vs : List V}, RpX K B σ as vs → RpX K B' σ as vs
  | [], _, h => h
  | .inl p :: as, _, ⟨v, r, e1, e2, e3⟩ => ⟨v, r, e1, Rp.mono e p e2, RpX.mono e e3⟩
  | .inr i :: as, _, ⟨v, r, e1, e2, e3⟩ => ⟨v, r, e1, e2, RpX.mono e e3⟩

/-! ### the judgements -/
structure DE (m : Bool) (X : Cx) (e : Expr) (te : TE) (de : dE) : Prop where
  pe : PE X e te
  sd : SndE m X.K te de
structure DT (m : Bool) (X : Cx) (e : Expr) (te : TT) (de : dT) : Prop where
  pe : PT X e te
  sd : SndT m X.K te de
structure DW (m : Bool) (X : Cx) (e : Expr) (te : TT) (de : dT) : Prop where
  pe : PW X e te
  sd : SndT m X.K te de
structure DO (m : Bool) (X : Cx) (e : Expr) (te : TE) (de : dO) : Prop where
  pe : PE X e te
  sd : SndO m X.K te de
structure DA (m : Bool) (X : Cx) (e : List Expr) (te : TA) (de : dA) : Prop where
  pe : PA X e te
  sd : SndA m X.K te de

/-! ### values -/
def dVar (i : Nat) : dE := fun env Q => match env[i]? with
  | some (some (.sh p)) => Q p env
  | _ => False
def dC (p : P) : dE := fun env Q => Q p env
section
variable {m : Bool} {K : PySem.W.Frag} {ta tb te : TE} {da db de : dE} {tt tu : TT} {dt du : dT} {X : Cx} {a b c : Expr} {pos : Pos}
theorem snd_var {i : Nat} : SndE m K (tVar i) (dVar i) := ⟨fun {B H σ env G QD Q} w h k => by
  unfold dVar at h
  split at h
  · rename_i p e
    obtain ⟨v, h1, h2⟩ := w.sl i _ e
    exact ⟨v, h1, k p env v B H G h w h2.2 .refl (.gr (.refl w.ex))⟩
  · exact h.elim⟩
theorem snd_c {v : V} {p : P} (h : ∀ B, Rp K B p v) : SndE m K (tC v) (dC p) := ⟨fun {B H σ env G QD Q} w q k => k p env v B H G q w (h B) .refl (.gr (.refl w.ex))⟩
theorem de_v (i : Nat) (h : PE X a (tVar i)) : DE m X a (tVar i) (dVar i) := ⟨h, snd_var⟩
theorem de_int {i j} : DE m X (.Constant (.int i) j pos) (tC (.int i)) (dC (.int i)) := ⟨pe_int, snd_c fun _ => rfl⟩
theorem de_bl {i j} : DE m X (.Constant (.bool i) j pos) (tC (.bl i)) (dC (.bl i)) := ⟨pe_bl, snd_c fun _ => rfl⟩
theorem de_non {j} : DE m X (.Constant .none j pos) (tC .non) (dC .non) := ⟨pe_non, snd_c fun _ => rfl⟩
theorem de_str {x j} : DE m X (.Constant (.str x) j pos) (tC (.str x)) (dC (.str x)) := ⟨pe_str, snd_c fun _ => rfl⟩
theorem de_glob {v : V} {p : P} (h : PE X a (tC v)) (r : ∀ B, Rp X.K B p v) : DE m X a (tC v) (dC p) := ⟨h, snd_c r⟩

/-! ### operations on values -/
structure OpS (K : PySem.W.Frag) (r : R2) (rd : P → P → (P → Prop) → Prop) : Prop where
  run : ∀ {B H : Hp} {x y : V} {p q : P} {QD : P → Prop} {Q : VK}, Ex B H → Rp K B p x → Rp K B q y → rd p q QD →
    (∀ z B' H' pz, QD pz → Rp K B' pz z → Gr B H B' H' → Q z H') → r x y H Q
structure UnS (K : PySem.W.Frag) (r : V → Hp → VK → Prop) (rd : P → (P → Prop) → Prop) : Prop where
  run : ∀ {B H : Hp} {x : V} {p : P} {QD : P → Prop} {Q : VK}, Ex B H → Rp K B p x → rd p QD →
    (∀ z B' H' pz, QD pz → Rp K B' pz z → Gr B H B' H' → Q z H') → r x H Q
/-- a new object comes of it -/
structure OpO (K : PySem.W.Frag) (r : R2) (rd : P → P → (D → Prop) → Prop) : Prop where
  run : ∀ {B H : Hp} {x y : V} {p q : P} {QD : D → Prop} {Q : VK}, Ex B H → Rp K B p x → Rp K B q y → rd p q QD →
    (∀ z B' H' d F, QD d → RpD K B' H' d z F → F.Nodup → (∀ a ∈ F, B' a = none) → (∀ a ∈ F, H a = none) → Gr B H B' H' → Q z H') → r x y H Q
def dOp (rd : P → P → (P → Prop) → Prop) (da db : dE) : dE := fun env Q => da env fun p e1 => db e1 fun q e2 => rd p q fun z => Q z e2
def dUn (rd : P → (P → Prop) → Prop) (da : dE) : dE := fun env Q => da env fun p e1 => rd p fun z => Q z e1
def dOpO (rd : P → P → (D → Prop) → Prop) (da db : dE) : dO := fun env Q => da env fun p e1 => db e1 fun q e2 => rd p q fun z => Q z e2
theorem snd_op {r : R2} {rd : P → P → (P → Prop) → Prop} (hs : OpS K r rd) (ha : SndE m K ta da) (hb : SndE m K tb db) : SndE m K (tOp r ta tb) (dOp rd da db) :=
  ⟨fun {B H σ env G QD Q} w h k => ha.run w h fun p e1 v B1 H1 G1 q1 w1 r1 s1 u1 => hb.run w1 q1 fun q e2 u B2 H2 G2 q2 w2 r2 s2 u2 =>
    hs.run w2.ex (Rp.mono s2.ex p r1) r2 q2 fun z B3 H3 pz q3 r3 g3 => k pz e2 z B3 H3 G2 q3 (w2.gr g3) r3 ((s1.trans s2).trans g3.stp) ((u1.trans u2).trans (.gr g3))⟩
theorem snd_un {r : V → Hp → VK → Prop} {rd : P → (P → Prop) → Prop} (hs : UnS K r rd) (ha : SndE m K ta da) : SndE m K (tUn r ta) (dUn rd da) :=
  ⟨fun {B H σ env G QD Q} w h k => ha.run w h fun p e1 v B1 H1 G1 q1 w1 r1 s1 u1 =>
    hs.run w1.ex r1 q1 fun z B3 H3 pz q3 r3 g3 => k pz e1 z B3 H3 G1 q3 (w1.gr g3) r3 (s1.trans g3.stp) (u1.trans (.gr g3))⟩
theorem snd_opO {r : R2} {rd : P → P → (D → Prop) → Prop} (hs : OpO K r rd) (ha : SndE m K ta da) (hb : SndE m K tb db) : SndO m K (tOp r ta tb) (dOpO rd da db) :=
  ⟨fun {B H σ env G QD Q} w h k => ha.run w h fun p e1 v B1 H1 G1 q1 w1 r1 s1 u1 => hb.run w1 q1 fun q e2 u B2 H2 G2 q2 w2 r2 s2 u2 =>
    hs.run w2.ex (Rp.mono s2.ex p r1) r2 q2 fun z B3 H3 d F q3 r3 f1 f2 f3 g3 => by
      have st := (s1.trans s2)
      exact k d e2 z F B3 H3 G2 q3 (w2.gr g3) ⟨r3, f1, f2, fun a ha => .inr (st.back (f3 a ha)), fun a ha i hi => w2.off (f3 a ha) i hi⟩ (st.trans g3.stp) ((u1.trans u2).trans (.gr g3))⟩
end
end DL
set_option Elab.async false
set_option linter.all false
set_option maxRecDepth 100000
namespace DL
open PySem PySem.Spec L2
/-- one of two ways, by a truth value -/
def cnd (c : Bool) (A B : Prop) : Prop := (c = true → A) ∧ (c = false → B)
section
variable {m : Bool} {K : PySem.W.Frag} {ta tb te : TE} {da db de : dE} {tt tu : TT} {dt du : dT} {X : Cx} {a b c : Expr} {pos : Pos}
/-! ### from one mode to the other -/
theorem Pure.off {e e1 : Env} {G G1 : Fp} {B H B1 H1 : Hp} : Pure false e e1 G G1 B H B1 H1 := fun h => Bool.noConfusion h
theorem SndE.imp (h : SndE true K te de) : SndE false K te de := ⟨fun w q k => h.run w q fun p e v B H G q1 w1 r1 s1 _ => k p e v B H G q1 w1 r1 s1 .off⟩
theorem SndT.imp (h : SndT true K tt dt) : SndT false K tt dt := ⟨fun w q k => h.run w q fun p e B H G q1 w1 s1 _ => k p e B H G q1 w1 s1 .off⟩
theorem DE.imp {te de} (h : DE true X a te de) : DE false X a te de := ⟨h.pe, h.sd.imp⟩
theorem DT.imp {te de} (h : DT true X a te de) : DT false X a te de := ⟨h.pe, h.sd.imp⟩

/-! ### tests -/
def dB (de : dE) : dT := fun env Q => de env fun p e => match p with
  | .bl b => Q b e
  | _ => False
theorem snd_B (h : SndE m K te de) : SndT m K (tB te) (dB de) := ⟨fun w q k => h.run w q fun p e v B H G q1 w1 r1 s1 u1 => by
  cases p with
  | bl b => exact ⟨b, r1, k b e B H G q1 w1 s1 u1⟩
  | _ => exact q1.elim⟩
theorem snd_test (h : SndE m K te de) : SndT m K (tTest te) (dB de) := ⟨fun w q k => h.run w q fun p e v B H G q1 w1 r1 s1 u1 => by
  cases p with
  | bl b => exact ⟨b, r1, k b e B H G q1 w1 s1 u1⟩
  | _ => exact q1.elim⟩
/-- a value's truth -/
def truP : P → (Bool → Prop) → Prop
  | .non, Q => Q false
  | .bl b, Q => Q b
  | .int i, Q => Q (i != 0)
  | .str s, Q => s.length ≤ sizeLine ∧ Q ((s.length : Int) != 0)
  | .lst xs, Q => Q (!xs.isEmpty)
  | .rol xs, Q => Q (!xs.isEmpty)
  | .tup xs, Q => Q (!xs.isEmpty)
  | _, _ => False
def dTru (de : dE) : dT := fun env Q => de env fun p e => truP p fun b => Q b e
theorem RpA.isEmpty {B : Hp} {ps : List P} {vs : List V} (h : RpA K B ps vs) : vs.isEmpty = ps.isEmpty := by
  have h1 := h.length
  cases vs <;> cases ps <;> first | rfl | simp at h1
theorem tru_ok {B H : Hp} {p : P} {v : V} {QD : Bool → Prop} {Q : Bool → Hp → Prop} (e : Ex B H) (r : Rp K B p v) (q : truP p QD) (k : ∀ b, QD b → Q b H) : ∃ k, TruV K v H k ∧ Q k H := by
  cases p with
  | non => rw [show v = _ from r]; exact ⟨_, rfl, k _ q⟩
  | bl b => rw [show v = _ from r]; exact ⟨_, rfl, k _ q⟩
  | int b => rw [show v = _ from r]; exact ⟨_, rfl, k _ q⟩
  | str b => rw [show v = _ from r]; exact ⟨_, ⟨q.1, rfl⟩, k _ q.2⟩
  | lst xs => obtain ⟨a, vs, rfl, h1, h2⟩ := r; exact ⟨_, .inl ⟨vs, SqL.of (e a _ h1), rfl⟩, by rw [h2.isEmpty]; exact k _ q⟩
  | rol xs => obtain ⟨a, vs, rfl, h1, h2⟩ := r; exact ⟨_, .inl ⟨vs, e.sqL h1, rfl⟩, by rw [h2.isEmpty]; exact k _ q⟩
  | tup xs => obtain ⟨a, vs, rfl, h1, h2⟩ := r; exact ⟨_, .inr (.inl ⟨vs, e.sqT h1, rfl⟩), by rw [h2.isEmpty]; exact k _ q⟩
  | ob _ => exact q.elim
  | ty _ => exact q.elim
  | ins _ _ => exact q.elim
theorem snd_tru (h : SndE m K te de) : SndT m K (fun σ H Q => te σ H fun x H' => ∃ k, TruV K x H' k ∧ Q k H') (dTru de) := ⟨fun w q k => h.run w q fun p e v B H G q1 w1 r1 s1 u1 =>
  tru_ok w1.ex r1 q1 fun b qb => k b e B H G qb w1 s1 u1⟩
def dAnd (dt du : dT) : dT := fun env Q => dt env fun c e => cnd c (du e Q) (Q false e)
def dOr (dt du : dT) : dT := fun env Q => dt env fun c e => cnd c (Q true e) (du e Q)
def dNot (dt : dT) : dT := fun env Q => dt env fun c e => Q (!c) e
theorem snd_and (h : SndT m K tt dt) (g : SndT m K tu du) : SndT m K (tAnd tt tu) (dAnd dt du) := ⟨fun w q k => h.run w q fun b e B H G q1 w1 s1 u1 => by
  cases b with
  | true =>
    replace q1 := q1.1 rfl
    rw [if_pos rfl]
    exact g.run w1 q1 fun b e B H G q2 w2 s2 u2 => k b e B H G q2 w2 (s1.trans s2) (u1.trans u2)
  | false =>
    replace q1 := q1.2 rfl
    rw [if_neg Bool.false_ne_true]
    exact k false e B H G q1 w1 s1 u1⟩
theorem snd_or (h : SndT m K tt dt) (g : SndT m K tu du) : SndT m K (tOr tt tu) (dOr dt du) := ⟨fun w q k => h.run w q fun b e B H G q1 w1 s1 u1 => by
  cases b with
  | false =>
    replace q1 := q1.2 rfl
    rw [if_neg Bool.false_ne_true]
    exact g.run w1 q1 fun b e B H G q2 w2 s2 u2 => k b e B H G q2 w2 (s1.trans s2) (u1.trans u2)
  | true =>
    replace q1 := q1.1 rfl
    rw [if_pos rfl]
    exact k true e B H G q1 w1 s1 u1⟩
theorem snd_not (h : SndT m K tt dt) : SndT m K (tNot tt) (dNot dt) := ⟨fun w q k => h.run w q fun b e B H G q1 w1 s1 u1 => k (!b) e B H G q1 w1 s1 u1⟩
theorem dt_val (h : DE m X a te de) (he : ∀ whole, isTrue a X.env whole = (do let v ← whole; standAt a.pos; holding [v] (truthy v)) := by intro _; rfl) : DT m X a (tB te) (dB de) := ⟨pt_val h.pe he, snd_B h.sd⟩
theorem dt_tru (h : DE m X a te de) (he : ∀ whole, isTrue a X.env whole = (do let v ← whole; standAt a.pos; holding [v] (truthy v)) := by intro _; rfl) : DT m X a (fun σ H Q => te σ H fun x H' => ∃ k, TruV X.K x H' k ∧ Q k H') (dTru de) := ⟨pt_truth h.pe he, snd_tru h.sd⟩
theorem dt_cmp {op : CmpOp} {r : R2} {rd : P → P → (P → Prop) → Prop} (ho : OpR X (compareOp op) r) (hs : OpS X.K r rd) (ha : DE m X a ta da) (hb : DE m X b tb db) (hm : behindInMarks op b = false) :
    DT m X (.Compare a [op] [b] pos) (tTest (tOp r ta tb)) (dB (dOp rd da db)) := ⟨pt_cmpR ho ha.pe hb.pe hm, snd_test (snd_op hs ha.sd hb.sd)⟩
theorem de_cmp {op : CmpOp} {r : R2} {rd : P → P → (P → Prop) → Prop} (ho : OpR X (compareOp op) r) (hs : OpS X.K r rd) (ha : DE m X a ta da) (hb : DE m X b tb db) (hm : behindInMarks op b = false) :
    DE m X (.Compare a [op] [b] pos) (tOp r ta tb) (dOp rd da db) := ⟨pe_cmpR ho ha.pe hb.pe hm, snd_op hs ha.sd hb.sd⟩
theorem de_op {op : Operator} {r : R2} {rd : P → P → (P → Prop) → Prop} (ho : OpR X (binaryOp op) r) (hs : OpS X.K r rd) (ha : DE m X a ta da) (hb : DE m X b tb db) :
    DE m X (.BinOp a op b pos) (tOp r ta tb) (dOp rd da db) := ⟨pe_op ho ha.pe hb.pe, snd_op hs ha.sd hb.sd⟩
theorem do_op {op : Operator} {r : R2} {rd : P → P → (D → Prop) → Prop} (ho : OpR X (binaryOp op) r) (hs : OpO X.K r rd) (ha : DE m X a ta da) (hb : DE m X b tb db) :
    DO m X (.BinOp a op b pos) (tOp r ta tb) (dOpO rd da db) := ⟨pe_op ho ha.pe hb.pe, snd_opO hs ha.sd hb.sd⟩
theorem de_un {op : UnaryOp} {r : V → Hp → VK → Prop} {rd : P → (P → Prop) → Prop} (ho : UnR X (unaryOp op) r) (hs : UnS X.K r rd) (ha : DE m X a ta da) : DE m X (.UnaryOp op a pos) (tUn r ta) (dUn rd da) := ⟨pe_un ho ha.pe, snd_un hs ha.sd⟩
theorem de_ix {r : R2} {rd : P → P → (P → Prop) → Prop} (ho : IxR X r) (hs : OpS X.K r rd) (ha : DE m X a ta da) (hb : DE m X b tb db) (hp : PlainIx b := by intro _ _; rfl) :
    DE m X (.Subscript a b pos) (tOp r ta tb) (dOp rd da db) := ⟨pe_ix ho ha.pe hb.pe hp, snd_op hs ha.sd hb.sd⟩
variable {rest : List Expr} {tA tB' : TT} {dA' dB' : dT}
theorem dw_and1 (h : DT m X a tA dA') : DW m X (.BoolOp .And [a] pos) tA dA' := ⟨pw_and1 h.pe, h.sd⟩
theorem dw_or1 (h : DT m X a tA dA') : DW m X (.BoolOp .Or [a] pos) tA dA' := ⟨pw_or1 h.pe, h.sd⟩
theorem dw_and (h : DT m X a tA dA') (g : DW m X (.BoolOp .And (b :: rest) pos) tB' dB') : DW m X (.BoolOp .And (a :: b :: rest) pos) (tAnd tA tB') (dAnd dA' dB') := ⟨pw_and h.pe g.pe, snd_and h.sd g.sd⟩
theorem dw_or (h : DT m X a tA dA') (g : DW m X (.BoolOp .Or (b :: rest) pos) tB' dB') : DW m X (.BoolOp .Or (a :: b :: rest) pos) (tOr tA tB') (dOr dA' dB') := ⟨pw_or h.pe g.pe, snd_or h.sd g.sd⟩
theorem DW.pt (h : DW m X a tA dA') : DT m X a tA dA' := ⟨h.pe.pt, h.sd⟩
theorem dt_not (h : DT m X a tA dA') : DT m X (.UnaryOp .Not a pos) (tNot tA) (dNot dA') := ⟨pt_not h.pe, snd_not h.sd⟩
/-! ### and, or, not as values (bools) -/
def dAndV (da db : dE) : dE := fun env Q => da env fun p e => match p with
  | .bl c => cnd c (db e Q) (Q (.bl false) e)
  | _ => False
def dOrV (da db : dE) : dE := fun env Q => da env fun p e => match p with
  | .bl c => cnd c (Q (.bl true) e) (db e Q)
  | _ => False
def dNotV (da : dE) : dE := fun env Q => da env fun p e => match p with
  | .bl c => Q (.bl (!c)) e
  | _ => False
theorem snd_andV (h : SndE m K ta da) (g : SndE m K tb db) : SndE m K (tAndV ta tb) (dAndV da db) := ⟨fun w q k => h.run w q fun p e v B H G q1 w1 r1 s1 u1 => by
  cases p with
  | bl c =>
    refine ⟨c, r1, ?_⟩
    cases c with
    | true =>
      replace q1 := q1.1 rfl
      rw [if_pos rfl]
      exact g.run w1 q1 fun b e v B H G q2 w2 r2 s2 u2 => k b e v B H G q2 w2 r2 (s1.trans s2) (u1.trans u2)
    | false =>
      replace q1 := q1.2 rfl
      rw [if_neg Bool.false_ne_true]
      exact k _ e _ B H G q1 w1 rfl s1 u1
  | _ => exact q1.elim⟩
theorem snd_orV (h : SndE m K ta da) (g : SndE m K tb db) : SndE m K (tOrV ta tb) (dOrV da db) := ⟨fun w q k => h.run w q fun p e v B H G q1 w1 r1 s1 u1 => by
  cases p with
  | bl c =>
    refine ⟨c, r1, ?_⟩
    cases c with
    | false =>
      replace q1 := q1.2 rfl
      rw [if_neg Bool.false_ne_true]
      exact g.run w1 q1 fun b e v B H G q2 w2 r2 s2 u2 => k b e v B H G q2 w2 r2 (s1.trans s2) (u1.trans u2)
    | true =>
      replace q1 := q1.1 rfl
      rw [if_pos rfl]
      exact k _ e _ B H G q1 w1 rfl s1 u1
  | _ => exact q1.elim⟩
theorem snd_notV (h : SndE m K ta da) : SndE m K (tNotV ta) (dNotV da) := ⟨fun w q k => h.run w q fun p e v B H G q1 w1 r1 s1 u1 => by
  cases p with
  | bl c => exact ⟨c, r1, k _ e _ B H G q1 w1 rfl s1 u1⟩
  | _ => exact q1.elim⟩
theorem de_one {op} (h : DE m X a ta da) : DE m X (.BoolOp op [a] pos) ta da := ⟨pe_one h.pe, h.sd⟩
theorem de_and (h : DE m X a ta da) (g : DE m X (.BoolOp .And (b :: rest) pos) tb db) : DE m X (.BoolOp .And (a :: b :: rest) pos) (tAndV ta tb) (dAndV da db) := ⟨pe_and h.pe g.pe, snd_andV h.sd g.sd⟩
theorem de_or (h : DE m X a ta da) (g : DE m X (.BoolOp .Or (b :: rest) pos) tb db) : DE m X (.BoolOp .Or (a :: b :: rest) pos) (tOrV ta tb) (dOrV da db) := ⟨pe_or h.pe g.pe, snd_orV h.sd g.sd⟩
theorem de_not (h : DE m X a ta da) : DE m X (.UnaryOp .Not a pos) (tNotV ta) (dNotV da) := ⟨pe_not h.pe, snd_notV h.sd⟩
def dIf (dt : dT) (da db : dE) : dE := fun env Q => dt env fun c e => cnd c (da e Q) (db e Q)
theorem snd_if (h : SndT m K tt dt) (ga : SndE m K ta da) (gb : SndE m K tb db) : SndE m K (tIf tt ta tb) (dIf dt da db) := ⟨fun w q k => h.run w q fun b e B H G q1 w1 s1 u1 => by
  cases b with
  | true =>
    replace q1 := q1.1 rfl
    rw [if_pos rfl]
    exact ga.run w1 q1 fun b e v B H G q2 w2 r2 s2 u2 => k b e v B H G q2 w2 r2 (s1.trans s2) (u1.trans u2)
  | false =>
    replace q1 := q1.2 rfl
    rw [if_neg Bool.false_ne_true]
    exact gb.run w1 q1 fun b e v B H G q2 w2 r2 s2 u2 => k b e v B H G q2 w2 r2 (s1.trans s2) (u1.trans u2)⟩
theorem de_ifExp (h : DT m X c tt dt) (ga : DE m X a ta da) (gb : DE m X b tb db) : DE m X (.IfExp c a b pos) (tIf tt ta tb) (dIf dt da db) := ⟨pe_ifExp h.pe ga.pe gb.pe, snd_if h.sd ga.sd gb.sd⟩
end

/-! ### argument lists -/
def dNil : dA := fun env Q => Q [] env
def dCons (de : dE) (dr : dA) : dA := fun env Q => de env fun p e => dr e fun as e2 => Q (.inl p :: as) e2
def dSlot (i : Nat) (dr : dA) : dA := fun env Q => match env[i]? with
  | some (some _) => dr env fun as e2 => Q (.inr i :: as) e2
  | _ => False
section
variable {m : Bool} {K : PySem.W.Frag} {te : TE} {de : dE} {ta : TA} {da : dA} {X : Cx} {a b c : Expr} {es : List Expr} {pos : Pos}
theorem snd_nil : SndA m K tNil dNil := ⟨fun {B H σ env G QD Q} w q k => k [] env [] B H G q w rfl .refl (.gr (.refl w.ex))⟩
theorem snd_cons (h : SndE m K te de) (g : SndA m K ta da) : SndA m K (tCons te ta) (dCons de da) := ⟨fun w q k => h.run w q fun p e v B H G q1 w1 r1 s1 u1 =>
  g.run w1 q1 fun as e2 vs B2 H2 G2 q2 w2 r2 s2 u2 => k _ e2 _ B2 H2 G2 q2 w2 ⟨v, vs, rfl, Rp.mono s2.ex p r1, r2⟩ (s1.trans s2) (u1.trans u2)⟩
theorem da_nil : DA m X [] tNil dNil := ⟨pa_nil, snd_nil⟩
theorem da_cons (h : DE m X a te de) (g : DA m X es ta da) (hs : starEach (a :: es) X.env = (false, eval a X.env) :: starEach es X.env := by rfl) : DA m X (a :: es) (tCons te ta) (dCons de da) := ⟨pa_cons h.pe g.pe hs, snd_cons h.sd g.sd⟩
theorem snd_slot {i : Nat} (g : SndA m K ta da) : SndA m K (tCons (tVar i) ta) (dSlot i da) := ⟨fun {B H σ env G QD Q} w q k => by
  unfold dSlot at q
  split at q
  · rename_i d hd
    obtain ⟨v, hv, _⟩ := w.sl i d hd
    exact ⟨v, hv, g.run w q fun as e2 vs B2 H2 G2 q2 w2 r2 s2 u2 => k _ e2 _ B2 H2 G2 q2 w2 ⟨v, vs, rfl, hv, r2⟩ s2 u2⟩
  · exact q.elim⟩
theorem da_slot {i : Nat} (h : PE X a (tVar i)) (g : DA m X es ta da) (hs : starEach (a :: es) X.env = (false, eval a X.env) :: starEach es X.env := by rfl) : DA m X (a :: es) (tCons (tVar i) ta) (dSlot i da) := ⟨pa_cons h g.pe hs, snd_slot g.sd⟩
end
end DL
set_option Elab.async false
set_option linter.all false
set_option maxRecDepth 100000
namespace DL
open PySem PySem.Spec L2
/-! ### a slot's own list becomes plain -/
def frzB (B H : Hp) (F : List Addr) : Hp := fun a => if a ∈ F then H a else B a
theorem frz_rp {K : PySem.W.Frag} {B H : Hp} {F : List Addr} (nb : ∀ a ∈ F, B a = none) : ∀ {d : D} {v : V}, RpD K B H d v F → Rp K (frzB B H F) d.frz v := by
  have e : Ex B (frzB B H F) := fun a o h => by
    unfold frzB
    rw [if_neg]
    · exact h
    · intro hm; rw [nb a hm] at h; cases h
  intro d v h
  cases d with
  | sh p => exact Rp.mono e p h.2
  | ol ps =>
    obtain ⟨a, vs, e1, e2, e3, e4⟩ := h
    refine ⟨a, vs, e2, ?_, RpA.mono e ps e4⟩
    unfold frzB
    rw [if_pos (by rw [e1]; exact List.mem_cons_self)]
    exact e3
  | oll pss =>
    obtain ⟨a, as, e1, e2, e3, e4, e5⟩ := h
    refine ⟨a, as.map V.ref, e2, ?_, ?_⟩
    · unfold frzB
      rw [if_pos (by rw [e1]; exact List.mem_cons_self)]
      exact e3
    · have hF : ∀ b ∈ as, b ∈ F := fun b hb => by rw [e1]; exact List.mem_cons_of_mem _ hb
      clear e1 e2 e3
      induction as generalizing pss with
      | nil =>
        cases pss with
        | nil => rfl
        | cons _ _ => simp at e4
      | cons b as ih =>
        cases pss with
        | nil => simp at e4
        | cons ps pss =>
          obtain ⟨vs, g1, g2⟩ := e5 0 b ps rfl rfl
          refine ⟨.ref b, as.map V.ref, rfl, ⟨b, vs, rfl, ?_, RpA.mono e ps g2⟩, ih pss (by simpa using e4) (fun i c qs h1 h2 => e5 (i + 1) c qs h1 h2) fun c hc => hF c (List.mem_cons_of_mem _ hc)⟩
          unfold frzB
          rw [if_pos (hF b List.mem_cons_self)]
          exact g1
  | oi C fs =>
    obtain ⟨a, dx, fv, e1, e2, e3, e4, e5⟩ := h
    refine ⟨a, dx, fv, e2, ?_, RpF.mono e fs e5⟩
    unfold frzB
    rw [if_pos (by rw [e1]; exact List.mem_cons_self)]
    exact e3
theorem frz_gr {B H : Hp} {F : List Addr} (ex : Ex B H) (nb : ∀ a ∈ F, B a = none) : Ex B (frzB B H F) ∧ Ex (frzB B H F) H := by
  refine ⟨fun a o h => ?_, fun a o h => ?_⟩
  · unfold frzB
    rw [if_neg]
    · exact h
    · intro hm; rw [nb a hm] at h; cases h
  · unfold frzB at h
    split at h
    · exact h
    · exact ex a o h
/-- objects that belong to no slot become plain -/
theorem Wd.frzO {K : PySem.W.Frag} {B H : Hp} {σ : L2.St} {env : Env} {G : Fp} {F : List Addr} (w : Wd K B H σ env G) (nb : ∀ a ∈ F, B a = none) (ap : ∀ a ∈ F, ∀ i, a ∉ G i) : Wd K (frzB B H F) H σ env G where
  ex := (frz_gr w.ex nb).2
  sl := fun i d e => by
    obtain ⟨v, h1, h2⟩ := w.sl i d e
    exact ⟨v, h1, RpD.mono (frz_gr w.ex nb).1 h2 fun _ _ _ h => h⟩
  no := w.no
  nd := w.nd
  dj := w.dj
  nb := fun i a h => by
    unfold frzB
    rw [if_neg fun hm => ap a hm i h]
    exact w.nb i a h
  len := w.len
section
variable {m : Bool} {K : PySem.W.Frag} {te : TE} {de : dE} {dq : dO} {ta : TA} {da : dA} {X : Cx} {a b c e : Expr} {es : List Expr} {pos : Pos}
def dFrz (dq : dO) : dE := fun env Q => dq env fun d e => Q d.frz e
theorem snd_frz (h : SndO m K te dq) : SndE m K te (dFrz dq) := ⟨fun {B H σ env G QD Q} w q k => h.run w q fun d e v F B1 H1 G1 q1 w1 o1 s1 u1 => by
  have st : Stp B H G (frzB B1 H1 F) H1 G1 := ⟨s1.ex.trans (frz_gr w1.ex o1.nb).1, s1.kp, s1.fp, fun a o h n hg => by
    unfold frzB
    rw [if_neg fun hm => by
      rcases o1.nw a hm with ⟨j, hj⟩ | hn
      · exact hg j hj
      · rw [hn] at h; cases h]
    exact s1.bs a o h n hg, s1.th⟩
  refine k d.frz e v (frzB B1 H1 F) H1 G1 q1 (w1.frzO o1.nb o1.ap) (frz_rp o1.nb o1.rp) st fun hm => ?_
  obtain ⟨e1, e2, g⟩ := u1 hm
  refine ⟨e1, e2, ⟨g.b.trans (frz_gr w1.ex o1.nb).1, g.h, (frz_gr w1.ex o1.nb).2, fun a o h n => ?_⟩⟩
  unfold frzB
  rw [if_neg fun hm => by
    rcases o1.nw a hm with ⟨j, hj⟩ | hn
    · exact o1.ap a hm j (by rw [e2]; exact hj)
    · rw [hn] at h; cases h]
  exact g.n a o h n⟩
theorem de_o (h : DO m X a te dq) : DE m X a te (dFrz dq) := ⟨h.pe, snd_frz h.sd⟩
def dSh (de : dE) : dO := fun env Q => de env fun p e => Q (.sh p) e
theorem snd_sh (h : SndE m K te de) : SndO m K te (dSh de) := ⟨fun w q k => h.run w q fun p e v B H G q1 w1 r1 s1 u1 =>
  k _ e v [] B H G q1 w1 ⟨⟨rfl, r1⟩, List.nodup_nil, fun _ h => absurd h List.not_mem_nil, fun _ h => absurd h List.not_mem_nil, fun _ h => absurd h List.not_mem_nil⟩ s1 u1⟩
theorem do_e (h : DE m X a te de) : DO m X a te (dSh de) := ⟨h.pe, snd_sh h.sd⟩
/-- a name that holds an own list, read as plain: from then on it is plain -/
def dVarF (i : Nat) : dE := fun env Q => match env[i]? with
  | some (some d) => Q d.frz (env.set i (some (.sh d.frz)))
  | _ => False
theorem set_some {α : Type} {l : List α} {i j : Nat} {x y : α} (h : (l.set i x)[j]? = some y) : (i = j ∧ x = y ∧ i < l.length) ∨ (i ≠ j ∧ l[j]? = some y) := by
  by_cases e : i = j
  · subst e
    by_cases hi : i < l.length
    · rw [List.getElem?_set_self hi] at h
      exact .inl ⟨rfl, Option.some.inj h, hi⟩
    · rw [List.getElem?_eq_none (by simpa using hi)] at h; cases h
  · rw [List.getElem?_set_ne e] at h
    exact .inr ⟨e, h⟩
/-- the slot i is given a value -/
theorem Wd.put {B H : Hp} {σ : L2.St} {env : Env} {G : Fp} {i : Nat} {d : D} {v : V} {F : List Addr} (w : Wd K B H σ env G) (hi : i < env.length) (r : RpD K B H d v F) (nd : F.Nodup) (nb : ∀ a ∈ F, B a = none) (ap : ∀ a ∈ F, ∀ j, j ≠ i → a ∉ G j) :
    Wd K B H (σ.set i (some v)) (env.set i (some d)) (fun j => if j = i then F else G j) where
  ex := w.ex
  sl := fun j d' e => by
    rcases set_some e with ⟨rfl, e2, _⟩ | ⟨n, e⟩
    · cases e2
      refine ⟨v, List.getElem?_set_self (by rw [← w.len]; exact hi), ?_⟩
      rw [if_pos rfl]; exact r
    · obtain ⟨v', h1, h2⟩ := w.sl j d' e
      refine ⟨v', by rw [List.getElem?_set_ne n]; exact h1, ?_⟩
      rw [if_neg fun q => n q.symm]; exact h2
  no := fun j h => by
    by_cases e : j = i
    · subst e
      exact absurd (List.getElem?_set_self hi) (h d)
    · show (if j = i then F else G j) = []
      rw [if_neg e]
      refine w.no j fun d' => ?_
      have := h d'
      rw [List.getElem?_set_ne fun q => e q.symm] at this
      exact this
  nd := fun j => by
    show (if j = i then F else G j).Nodup
    split
    · exact nd
    · exact w.nd j
  dj := fun j k a h1 h2 => by
    change a ∈ (if j = i then F else G j) at h1
    change a ∈ (if k = i then F else G k) at h2
    split at h1 <;> split at h2
    · rename_i e1 e2; rw [e1, e2]
    · rename_i e1 e2; exact absurd h2 (ap a h1 k e2)
    · rename_i e1 e2; exact absurd h1 (ap a h2 j e1)
    · exact w.dj j k a h1 h2
  nb := fun j a h => by
    change a ∈ (if j = i then F else G j) at h
    split at h
    · exact nb a h
    · exact w.nb j a h
  len := by rw [List.length_set, List.length_set]; exact w.len
theorem env_lt {env : Env} {i : Nat} {d : D} (e : env[i]? = some (some d)) : i < env.length := (List.getElem?_eq_some_iff.mp e).1
theorem set_id {α : Type} {l : List α} {i : Nat} {x : α} (h : l[i]? = some x) : l.set i x = l := by
  apply List.ext_getElem?
  intro j
  by_cases e : i = j
  · subst e
    rw [List.getElem?_set_self (List.getElem?_eq_some_iff.mp h).1, h]
  · rw [List.getElem?_set_ne e]
theorem snd_varF {i : Nat} : SndE false K (tVar i) (dVarF i) := ⟨fun {B H σ env G QD Q} w h k => by
  unfold dVarF at h
  split at h
  · rename_i d e
    obtain ⟨v, h1, h2⟩ := w.sl i _ e
    have nb : ∀ a ∈ G i, B a = none := fun a ha => w.nb i a ha
    have fg := frz_gr w.ex nb
    have wz : Wd K (frzB B H (G i)) H σ (env.set i none) (fun j => if j = i then [] else G j) := by
      refine ⟨fg.2, fun j d' e' => ?_, fun j hn => ?_, fun j => ?_, fun j l a ha hb => ?_, fun j a ha => ?_, by rw [List.length_set]; exact w.len⟩
      · rcases set_some e' with ⟨_, e2, _⟩ | ⟨n, e'⟩
        · cases e2
        · obtain ⟨v', g1, g2⟩ := w.sl j d' e'
          refine ⟨v', g1, ?_⟩
          rw [if_neg fun q => n q.symm]
          exact RpD.mono fg.1 g2 fun _ _ _ h => h
      · show (if j = i then [] else G j) = []
        split
        · rfl
        · rename_i n
          refine w.no j fun d' => ?_
          have := hn d'
          rw [List.getElem?_set_ne fun q => n q.symm] at this
          exact this
      · show (if j = i then [] else G j).Nodup
        split
        · exact List.nodup_nil
        · exact w.nd j
      · change a ∈ (if j = i then [] else G j) at ha
        change a ∈ (if l = i then [] else G l) at hb
        split at ha
        · cases ha
        · split at hb
          · cases hb
          · exact w.dj j l a ha hb
      · change a ∈ (if j = i then [] else G j) at ha
        split at ha
        · cases ha
        · rename_i n
          unfold frzB
          rw [if_neg fun hm => n (w.dj j i a ha hm)]
          exact w.nb j a ha
    have w2 := wz.put (i := i) (d := .sh d.frz) (v := v) (F := []) (by rw [List.length_set]; exact env_lt e) ⟨rfl, frz_rp nb h2⟩ List.nodup_nil (fun _ h => absurd h List.not_mem_nil) (fun _ h => absurd h List.not_mem_nil)
    rw [set_id h1, List.set_set] at w2
    refine ⟨v, h1, k _ _ v _ H _ h w2 (frz_rp nb h2) ⟨fg.1, fun a o h _ => h, fun j a ha => ?_, fun a o ho n hg => ?_, fun a o ho => ⟨o, ho⟩⟩ .off⟩
    · change a ∈ (if j = i then [] else if j = i then [] else G j) at ha
      split at ha
      · cases ha
      · exact .inl ⟨j, ha⟩
    · unfold frzB
      rw [if_neg (hg i)]
      exact n
  · exact h.elim⟩
theorem de_vF (i : Nat) (h : PE X a (tVar i)) : DE false X a (tVar i) (dVarF i) := ⟨h, snd_varF⟩

/-! ### displays -/
def prs : List AR → Option (List P)
  | [] => some []
  | .inl p :: as => (prs as).map (p :: ·)
  | .inr _ :: _ => none
theorem RpX.all {B : Hp} {σ : L2.St} : ∀ {as : List AR} {vs : List V} {ps : List P}, RpX K B σ as vs → prs as = some ps → RpA K B ps vs
  | [], _, _, h, e => by cases Option.some.inj e; exact h
  | .inl p :: as, _, ps, ⟨v, r, e1, e2, e3⟩, e => by
    unfold prs at e
    cases h : prs as with
    | none => rw [h] at e; cases e
    | some qs =>
      rw [h] at e
      cases Option.some.inj e
      exact ⟨v, r, e1, e2, RpX.all e3 h⟩
  | .inr i :: as, _, ps, _, e => by cases e
def dLst (da : dA) : dO := fun env Q => da env fun as e => match prs as with
  | some ps => ps.length ≤ sizeLine ∧ Q (.ol ps) e
  | none => False
def dTup (da : dA) : dE := fun env Q => da env fun as e => match prs as with
  | some ps => ps.length ≤ sizeLine ∧ Q (.tup ps) e
  | none => False
theorem own_new {B H : Hp} {σ : L2.St} {env : Env} {G : Fp} {p : Addr} {vs : List V} {ps : List P} {H0 : Hp} {G0 : Fp} (w : Wd K B H σ env G) (h : H p = none) (h0 : H0 p = none) (r : RpA K B ps vs) :
    Wd K B (upd H p (.lst vs)) σ env G ∧ Own K H0 G0 B (upd H p (.lst vs)) G (.ol ps) (.ref p) [p] ∧ Gr B H B (upd H p (.lst vs)) := by
  have g : Gr B H B (upd H p (.lst vs)) := ⟨Ex.refl _, fun a u k => by rw [upd_ne (ne_of_none k h)]; exact k, fun a u k => by rw [upd_ne (ne_of_none (w.ex a u k) h)]; exact w.ex a u k, fun a u k n => n⟩
  refine ⟨w.gr g, ⟨⟨p, vs, rfl, rfl, upd_same, r⟩, by simp, fun a ha => ?_, fun a ha => ?_, fun a ha i hi => ?_⟩, g⟩
  · rw [List.mem_singleton.mp ha]; exact w.ex.back h
  · rw [List.mem_singleton.mp ha]; exact .inr h0
  · rw [List.mem_singleton.mp ha] at hi; exact w.off h i hi
theorem snd_lst (h : SndA m K ta da) : SndO m K (tLst ta) (dLst da) := ⟨fun {B H σ env G QD Q} w q k => h.run w q fun as e vs B1 H1 G1 q1 w1 r1 s1 u1 => by
  change (match prs as with | some ps => ps.length ≤ sizeLine ∧ QD (.ol ps) e | none => False) at q1
  split at q1
  · rename_i ps hp
    have ra := r1.all hp
    refine ⟨by rw [ra.length]; exact q1.1, fun p hn => ?_⟩
    obtain ⟨w2, o2, g2⟩ := own_new w1 hn (s1.back hn) ra
    exact k _ e _ [p] B1 _ G1 q1.2 w2 o2 (s1.trans g2.stp) (u1.trans (.gr g2))
  · exact q1.elim⟩
theorem snd_tup (h : SndA m K ta da) : SndE m K (tTup ta) (dTup da) := ⟨fun {B H σ env G QD Q} w q k => h.run w q fun as e vs B1 H1 G1 q1 w1 r1 s1 u1 => by
  change (match prs as with | some ps => ps.length ≤ sizeLine ∧ QD (.tup ps) e | none => False) at q1
  split at q1
  · rename_i ps hp
    have ra := r1.all hp
    refine ⟨by rw [ra.length]; exact q1.1, fun p hn => ?_⟩
    have g2 := gr_new (o := .tup vs) w1.ex hn
    exact k _ e _ _ _ G1 q1.2 (w1.gr g2) ⟨p, vs, rfl, SqT.of upd_same, RpA.mono g2.b ps ra⟩ (s1.trans g2.stp) (u1.trans (.gr g2))
  · exact q1.elim⟩
theorem do_lst (h : DA m X es ta da) : DO m X (.List es pos) (tLst ta) (dLst da) := ⟨pe_lst h.pe, snd_lst h.sd⟩
theorem de_tup {x1} (h : DA m X es ta da) : DE m X (.Tuple es x1 pos) (tTup ta) (dTup da) := ⟨pe_tup h.pe, snd_tup h.sd⟩

/-! ### built-ins -/
structure CbS (K : PySem.W.Frag) (r : List V → Hp → VK → Prop) (rd : List P → (P → Prop) → Prop) : Prop where
  run : ∀ {B H : Hp} {xs : List V} {ps : List P} {QD : P → Prop} {Q : VK}, Ex B H → RpA K B ps xs → rd ps QD →
    (∀ z B' H' pz, QD pz → Rp K B' pz z → Gr B H B' H' → Q z H') → r xs H Q
structure CbO (K : PySem.W.Frag) (r : List V → Hp → VK → Prop) (rd : List P → (List P → Prop) → Prop) : Prop where
  run : ∀ {B H : Hp} {xs : List V} {ps : List P} {QD : List P → Prop} {Q : VK}, Ex B H → RpA K B ps xs → rd ps QD →
    (∀ l ys zs, QD zs → RpA K B zs ys → H l = none → Q (.ref l) (upd H l (.lst ys))) → r xs H Q
def dCb (rd : List P → (P → Prop) → Prop) (da : dA) : dE := fun env Q => da env fun as e => match prs as with
  | some ps => rd ps fun p => Q p e
  | none => False
def dCbO (rd : List P → (List P → Prop) → Prop) (da : dA) : dO := fun env Q => da env fun as e => match prs as with
  | some ps => rd ps fun p => Q (.ol p) e
  | none => False
theorem snd_cb {r : List V → Hp → VK → Prop} {rd : List P → (P → Prop) → Prop} (hs : CbS K r rd) (h : SndA m K ta da) : SndE m K (tCB r ta) (dCb rd da) := ⟨fun {B H σ env G QD Q} w q k => h.run w q fun as e vs B1 H1 G1 q1 w1 r1 s1 u1 => by
  change (match prs as with | some ps => rd ps fun p => QD p e | none => False) at q1
  split at q1
  · rename_i ps hp
    exact hs.run w1.ex (r1.all hp) q1 fun z B2 H2 pz q2 r2 g2 => k pz e z B2 H2 G1 q2 (w1.gr g2) r2 (s1.trans g2.stp) (u1.trans (.gr g2))
  · exact q1.elim⟩
theorem snd_cbO {r : List V → Hp → VK → Prop} {rd : List P → (List P → Prop) → Prop} (hs : CbO K r rd) (h : SndA m K ta da) : SndO m K (tCB r ta) (dCbO rd da) := ⟨fun {B H σ env G QD Q} w q k => h.run w q fun as e vs B1 H1 G1 q1 w1 r1 s1 u1 => by
  change (match prs as with | some ps => rd ps fun p => QD (.ol p) e | none => False) at q1
  split at q1
  · rename_i ps hp
    exact hs.run w1.ex (r1.all hp) q1 fun l ys zs q2 r2 hn => by
      obtain ⟨w2, o2, g2⟩ := own_new w1 hn (s1.back hn) r2
      exact k _ e _ [l] B1 _ G1 q2 w2 o2 (s1.trans g2.stp) (u1.trans (.gr g2))
  · exact q1.elim⟩
theorem de_cb {r : List V → Hp → VK → Prop} {rd : List P → (P → Prop) → Prop} {e0 : Expr} (h : PA X (e0 :: es) ta → PE X a (tCB r ta)) (hs : CbS X.K r rd) (ha : DA m X (e0 :: es) ta da) : DE m X a (tCB r ta) (dCb rd da) := ⟨h ha.pe, snd_cb hs ha.sd⟩
theorem do_cb {r : List V → Hp → VK → Prop} {rd : List P → (List P → Prop) → Prop} {e0 : Expr} (h : PA X (e0 :: es) ta → PE X a (tCB r ta)) (hs : CbO X.K r rd) (ha : DA m X (e0 :: es) ta da) : DO m X a (tCB r ta) (dCbO rd da) := ⟨h ha.pe, snd_cbO hs ha.sd⟩
end
end DL
set_option Elab.async false
set_option linter.all false
set_option maxRecDepth 100000
namespace DL
open PySem PySem.Spec L2
/-- the slot is there -/
def inE : Nat → Env → Bool
  | _, [] => false
  | 0, _ :: _ => true
  | i + 1, _ :: e => inE i e
theorem inE_lt : ∀ {i : Nat} {e : Env}, inE i e = true → i < e.length
  | 0, [], h => by simp [inE] at h
  | _ + 1, [], h => by simp [inE] at h
  | 0, _ :: e, _ => Nat.succ_pos _
  | i + 1, _ :: e, h => Nat.succ_lt_succ (inE_lt (i := i) (e := e) h)
structure dEnds where
  nx : Env → Prop
  rt : D → Env → Prop
  bk : Env → Prop := fun _ => False
  ct : Env → Prop := fun _ => False
abbrev dS := dEnds → Env → Prop
/-- the slots of pn keep their values -/
def Pin (pn : List Nat) (σ σ' : L2.St) : Prop := σ'.length = σ.length ∧ ∀ i ∈ pn, σ'[i]? = σ[i]?
theorem Pin.refl {pn : List Nat} {σ : L2.St} : Pin pn σ σ := ⟨rfl, fun _ _ => rfl⟩
theorem Pin.trans {pn : List Nat} {σ σ1 σ2 : L2.St} (a : Pin pn σ σ1) (b : Pin pn σ1 σ2) : Pin pn σ σ2 := ⟨b.1.trans a.1, fun i h => (b.2 i h).trans (a.2 i h)⟩
theorem Pin.set {pn : List Nat} {σ : L2.St} {i : Nat} {x : Option V} (h : i ∉ pn) : Pin pn σ (σ.set i x) := ⟨List.length_set, fun j hj => List.getElem?_set_ne fun e => h (by rw [e]; exact hj)⟩
/-- what is shown of the place behind: from the world at the start -/
def Nx (K : PySem.W.Frag) (pn : List Nat) (B H : Hp) (G : Fp) (σ : L2.St) (nd : Env → Prop) (n : L2.St → Hp → Prop) : Prop :=
  ∀ env' σ' B' H' G', nd env' → Wd K B' H' σ' env' G' → Stp B H G B' H' G' → Pin pn σ σ' → n σ' H'
def Rt (K : PySem.W.Frag) (pn : List Nat) (B H : Hp) (G : Fp) (σ : L2.St) (rd : D → Env → Prop) (r : VK) : Prop :=
  ∀ d env' σ' v F B' H' G', rd d env' → Wd K B' H' σ' env' G' → Own K H G B' H' G' d v F → Stp B H G B' H' G' → Pin pn σ σ' → r v H'
theorem Nx.at {K : PySem.W.Frag} {pn : List Nat} {B H B1 H1 : Hp} {G G1 : Fp} {σ σ1 : L2.St} {nd : Env → Prop} {n : L2.St → Hp → Prop} (h : Nx K pn B H G σ nd n) (s : Stp B H G B1 H1 G1) (p : Pin pn σ σ1) : Nx K pn B1 H1 G1 σ1 nd n :=
  fun env' σ' B' H' G' q w s2 p2 => h env' σ' B' H' G' q w (s.trans s2) (p.trans p2)
theorem Rt.at {K : PySem.W.Frag} {pn : List Nat} {B H B1 H1 : Hp} {G G1 : Fp} {σ σ1 : L2.St} {rd : D → Env → Prop} {r : VK} (h : Rt K pn B H G σ rd r) (s : Stp B H G B1 H1 G1) (p : Pin pn σ σ1) : Rt K pn B1 H1 G1 σ1 rd r :=
  fun d env' σ' v F B' H' G' q w o s2 p2 => h d env' σ' v F B' H' G' q w ⟨o.rp, o.nd, o.nb, fun a ha => (o.nw a ha).elim (fun ⟨j, hj⟩ => s.fp j a hj) (fun hn => .inr (s.back hn)), o.ap⟩ (s.trans s2) (p.trans p2)
structure SndS (pn : List Nat) (K : PySem.W.Frag) (ts : TS) (ds : dS) : Prop where
  run : ∀ {B H : Hp} {σ : L2.St} {env : Env} {G : Fp} {Dd : dEnds} {D : Ends}, Wd K B H σ env G → ds Dd env →
    Nx K pn B H G σ Dd.nx D.nx → Rt K pn B H G σ Dd.rt D.rt → Nx K pn B H G σ Dd.bk D.bk → Nx K pn B H G σ Dd.ct D.ct → ts D σ H
structure DS (pn : List Nat) (X : Cx) (st : Stmt) (ts : TS) (ds : dS) : Prop where
  pe : PS X st ts
  sd : SndS pn X.K ts ds
structure DSs (pn : List Nat) (X : Cx) (st : List Stmt) (ts : TS) (ds : dS) : Prop where
  pe : PSs X st ts
  sd : SndS pn X.K ts ds
def dNext : dS := fun Dd env => Dd.nx env
def dSeq (a b : dS) : dS := fun Dd env => a { Dd with nx := b Dd } env
def dBreak : dS := fun Dd env => Dd.bk env
def dCont : dS := fun Dd env => Dd.ct env
section
variable {pn : List Nat} {m : Bool} {K : PySem.W.Frag} {te ta tb : TE} {de da db : dE} {dq : dO} {tt : TT} {dt : dT} {t u : TS} {dt1 du : dS} {X : Cx} {a b c e : Expr} {st : Stmt} {rest sb : List Stmt} {pos : Pos}
theorem dss_nil : DSs pn X [] tNext dNext := ⟨pss_nil, ⟨fun {B H σ env G Dd D} w q n r k1 k2 => n env σ B H G q w .refl .refl⟩⟩
theorem snd_seq (h : SndS pn K t dt1) (g : SndS pn K u du) : SndS pn K (tSeq t u) (dSeq dt1 du) := ⟨fun {B H σ env G Dd D} w q n r k1 k2 =>
  h.run (D := { D with nx := u D }) w q (fun env' σ' B' H' G' q1 w1 s1 p1 => g.run w1 q1 (n.at s1 p1) (r.at s1 p1) (k1.at s1 p1) (k2.at s1 p1)) r k1 k2⟩
theorem dss_cons (h : DS pn X st t dt1) (g : DSs pn X rest u du) : DSs pn X (st :: rest) (tSeq t u) (dSeq dt1 du) := ⟨pss_cons h.pe g.pe, snd_seq h.sd g.sd⟩
theorem dss_one (h : DS pn X st t dt1) : DSs pn X [st] t dt1 := ⟨pss_one h.pe, h.sd⟩
theorem ds_pass : DS pn X (.Pass pos) tNext dNext := ⟨ps_pass, ⟨fun {B H σ env G Dd D} w q n r k1 k2 => n env σ B H G q w .refl .refl⟩⟩
theorem ds_break : DS pn X (.Break pos) tBreak dBreak := ⟨ps_break, ⟨fun {B H σ env G Dd D} w q n r k1 k2 => k1 env σ B H G q w .refl .refl⟩⟩
theorem ds_continue : DS pn X (.Continue pos) tCont dCont := ⟨ps_continue, ⟨fun {B H σ env G Dd D} w q n r k1 k2 => k2 env σ B H G q w .refl .refl⟩⟩
/-- an expression whose value is dropped -/
def dDrop (de : dE) : dS := fun Dd env => de env fun _ e => Dd.nx e
theorem snd_drop (h : SndE m K te de) : SndS pn K (tDrop te) (dDrop de) := ⟨fun {B H σ env G Dd D} w q n r k1 k2 => h.run w q fun p env' v B' H' G' q1 w1 r1 s1 _ => n env' σ B' H' G' q1 w1 s1 .refl⟩
theorem ds_drop (h : DE false X e te de) (hs : swapsWith e none pos.line X.env = pure false := by rfl) : DS pn X (.Expr e pos) (tDrop te) (dDrop de) := ⟨ps_expr h.pe hs, snd_drop h.sd⟩
def dRet (dq : dO) : dS := fun Dd env => dq env Dd.rt
theorem snd_ret (h : SndO m K te dq) : SndS pn K (tRet te) (dRet dq) := ⟨fun {B H σ env G Dd D} w q n r k1 k2 => h.run w q fun d env' v F B' H' G' q1 w1 o1 s1 _ => r d env' σ v F B' H' G' q1 w1 o1 s1 .refl⟩
theorem ds_retO (h : DO false X e te dq) : DS pn X (.Return (some e) pos) (tRet te) (dRet dq) := ⟨ps_ret h.pe, snd_ret h.sd⟩
theorem ds_ret (h : DE false X e te de) : DS pn X (.Return (some e) pos) (tRet te) (dRet (dSh de)) := ⟨ps_ret h.pe, snd_ret (snd_sh h.sd)⟩
def dRetN : dS := fun Dd env => Dd.rt (.sh .non) env
theorem ds_retN : DS pn X (.Return none pos) tRetN dRetN := ⟨ps_retN, ⟨fun {B H σ env G Dd D} w q n r k1 k2 => r _ env σ .non [] B H G q w ⟨⟨rfl, rfl⟩, List.nodup_nil, fun _ h => absurd h List.not_mem_nil, fun _ h => absurd h List.not_mem_nil, fun _ h => absurd h List.not_mem_nil⟩ .refl .refl⟩⟩
def dIfS (dt : dT) (a b : dS) : dS := fun Dd env => dt env fun c e => cnd c (a Dd e) (b Dd e)
theorem snd_ifS (h : SndT m K tt dt) (g : SndS pn K t dt1) (f : SndS pn K u du) : SndS pn K (tIfS tt t u) (dIfS dt dt1 du) := ⟨fun {B H σ env G Dd D} w q n r k1 k2 => h.run w q fun b env' B' H' G' q1 w1 s1 _ => by
  cases b with
  | true =>
    replace q1 := q1.1 rfl
    rw [if_pos rfl]
    exact g.run w1 q1 (n.at s1 .refl) (r.at s1 .refl) (k1.at s1 .refl) (k2.at s1 .refl)
  | false =>
    replace q1 := q1.2 rfl
    rw [if_neg Bool.false_ne_true]
    exact f.run w1 q1 (n.at s1 .refl) (r.at s1 .refl) (k1.at s1 .refl) (k2.at s1 .refl)⟩
theorem ds_if (h : DT false X c tt dt) (g : DSs pn X rest t dt1) (f : DSs pn X sb u du) : DS pn X (.If c rest sb pos) (tIfS tt t u) (dIfS dt dt1 du) := ⟨ps_if h.pe g.pe f.pe, snd_ifS h.sd g.sd f.sd⟩

/-! ### targets -/
abbrev dG := P → Env → (Env → Prop) → Prop
def NxG (K : PySem.W.Frag) (pn : List Nat) (B H : Hp) (G : Fp) (σ : L2.St) (nd : Env → Prop) (n : L2.St → Hp → Prop) : Prop :=
  ∀ env' σ' G', nd env' → Wd K B H σ' env' G' → (∀ i a, a ∈ G' i → ∃ j, a ∈ G j) → Pin pn σ σ' → n σ' H
theorem stp_g {B H : Hp} {G G' : Fp} (h : ∀ i a, a ∈ G' i → ∃ j, a ∈ G j) : Stp B H G B H G' := ⟨Ex.refl _, fun _ _ h _ => h, fun i a k => .inl (h i a k), fun _ _ _ h _ => h, fun a o h => ⟨o, h⟩⟩
theorem Nx.g {pn : List Nat} {K : PySem.W.Frag} {B H : Hp} {G : Fp} {σ : L2.St} {nd : Env → Prop} {n : L2.St → Hp → Prop} (h : Nx K pn B H G σ nd n) : NxG K pn B H G σ nd n :=
  fun env' σ' G' q w g p => h env' σ' B H G' q w (stp_g g) p
structure SndG (pn : List Nat) (K : PySem.W.Frag) (g : TG) (dg : dG) : Prop where
  run : ∀ {B H : Hp} {σ : L2.St} {env : Env} {G : Fp} {p : P} {v : V} {QD : Env → Prop} {Q : L2.St → Hp → Prop}, Wd K B H σ env G → Rp K B p v → dg p env QD → NxG K pn B H G σ QD Q → g v σ H Q
structure DG (pn : List Nat) (X : Cx) (tg : Expr) (g : TG) (dg : dG) : Prop where
  pe : PG X tg g
  sd : SndG pn X.K g dg
def dgName (i : Nat) : dG := fun p env Q => inE i env = true ∧ Q (env.set i (some (.sh p)))
theorem Wd.putS {B H : Hp} {σ : L2.St} {env : Env} {G : Fp} {i : Nat} {p : P} {v : V} (w : Wd K B H σ env G) (hi : i < env.length) (r : Rp K B p v) :
    Wd K B H (σ.set i (some v)) (env.set i (some (.sh p))) (fun j => if j = i then [] else G j) :=
  w.put hi ⟨rfl, r⟩ List.nodup_nil (fun _ h => absurd h List.not_mem_nil) fun _ h => absurd h List.not_mem_nil
theorem stp_put {B H : Hp} {G : Fp} {i : Nat} {F : List Addr} (nw : ∀ a ∈ F, H a = none ∨ ∃ j, a ∈ G j) : Stp B H G B H (fun j => if j = i then F else G j) :=
  ⟨Ex.refl _, fun _ _ h _ => h, fun j a h => by
    change a ∈ (if j = i then F else G j) at h
    split at h
    · exact (nw a h).symm
    · exact .inl ⟨j, h⟩, fun _ _ _ h _ => h, fun a o h => ⟨o, h⟩⟩
theorem snd_gname {i : Nat} (hp : i ∉ pn) : SndG pn K (gName i) (dgName i) := ⟨fun {B H σ env G p v QD Q} w r q n =>
  n _ _ _ q.2 (w.putS (inE_lt q.1) r) (fun j a h => by
    change a ∈ (if j = i then [] else G j) at h
    split at h
    · cases h
    · exact ⟨j, h⟩) (Pin.set hp)⟩
theorem dg_name {i : Nat} (h : PG X a (gName i)) (hp : i ∉ pn := by decide) : DG pn X a (gName i) (dgName i) := ⟨h, snd_gname hp⟩
abbrev dGs := List P → Env → (Env → Prop) → Prop
structure SndGs (pn : List Nat) (K : PySem.W.Frag) (g : TGs) (dg : dGs) : Prop where
  run : ∀ {B H : Hp} {σ : L2.St} {env : Env} {G : Fp} {ps : List P} {vs : List V} {QD : Env → Prop} {Q : L2.St → Hp → Prop}, Wd K B H σ env G → RpA K B ps vs → dg ps env QD → NxG K pn B H G σ QD Q → g vs σ H Q
structure DGs (pn : List Nat) (X : Cx) (tg : List Expr) (g : TGs) (dg : dGs) : Prop where
  pe : PGs X tg g
  sd : SndGs pn X.K g dg
def dgNil : dGs := fun ps env Q => match ps with
  | [] => Q env
  | _ => False
def dgCons (g : dG) (gs : dGs) : dGs := fun ps env Q => match ps with
  | p :: r => g p env fun e => gs r e Q
  | [] => False
theorem snd_gnil : SndGs pn K gNil dgNil := ⟨fun {B H σ env G ps vs QD Q} w r q n => by
  cases ps with
  | nil => exact ⟨r, n env σ G q w (fun i a h => ⟨i, h⟩) .refl⟩
  | cons _ _ => exact q.elim⟩
theorem snd_gcons {g : TG} {gs : TGs} {dg : dG} {dgs : dGs} (h : SndG pn K g dg) (hs : SndGs pn K gs dgs) : SndGs pn K (gCons g gs) (dgCons dg dgs) := ⟨fun {B H σ env G ps vs QD Q} w r q n => by
  cases ps with
  | nil => exact q.elim
  | cons p ps =>
    obtain ⟨v, l, e1, e2, e3⟩ := r
    exact ⟨v, l, e1, h.run w e2 q fun env' σ' G' q1 w1 g1 p1 => hs.run w1 e3 q1 fun env2 σ2 G2 q2 w2 g2 p2 => n env2 σ2 G2 q2 w2 (fun i a h => (g2 i a h).elim fun j hj => g1 j a hj) (p1.trans p2)⟩⟩
theorem dgs_nil : DGs pn X [] gNil dgNil := ⟨pgs_nil, snd_gnil⟩
theorem dgs_cons {e : Expr} {es : List Expr} {g : TG} {gs : TGs} {dg : dG} {dgs : dGs} (h : DG pn X e g dg) (hs : DGs pn X es gs dgs) (h3 : (assignEach (e :: es) X.env).map (·.2) = assign e X.env :: (assignEach es X.env).map (·.2) := by rfl) : DGs pn X (e :: es) (gCons g gs) (dgCons dg dgs) := ⟨pgs_cons h.pe hs.pe h3, snd_gcons h.sd hs.sd⟩
def dgTup (n : Nat) (gs : dGs) : dG := fun p env Q => match p with
  | .tup ps => ps.length = n ∧ gs ps env Q
  | _ => False
theorem snd_gtup {n : Nat} {gs : TGs} {dgs : dGs} (hs : SndGs pn K gs dgs) : SndG pn K (gTup K n gs) (dgTup n dgs) := ⟨fun {B H σ env G p v QD Q} w r q k => by
  cases p with
  | tup ps =>
    obtain ⟨a, vs, e1, e2, e3⟩ := r
    exact ⟨a, vs, e1, w.ex.sqT e2, e3.length.trans q.1, hs.run w e3 q.2 k⟩
  | _ => exact q.elim⟩
theorem dg_tup {n : Nat} {gs : TGs} {dgs : dGs} (h : PGs X rest' gs → PG X a (gTup X.K n gs)) (hs : DGs pn X rest' gs dgs) : DG pn X a (gTup X.K n gs) (dgTup n dgs) := ⟨h hs.pe, snd_gtup hs.sd⟩

/-! ### stores -/
def dAsg (de : dE) (dg : dG) : dS := fun Dd env => de env fun p e => dg p e Dd.nx
theorem snd_asg {g : TG} {dg : dG} (h : SndE m K te de) (hg : SndG pn K g dg) : SndS pn K (tAsg te g) (dAsg de dg) := ⟨fun {B H σ env G Dd D} w q n r k1 k2 => h.run w q fun p env' v B' H' G' q1 w1 r1 s1 _ =>
  hg.run w1 r1 q1 (n.at s1 .refl).g⟩
theorem ds_asg {tg : Expr} {g : TG} {dg : dG} (h : DE false X e te de) (hg : DG pn X tg g dg) (hs : swapsWithSole [tg] e pos.line X.env = pure false := by rfl) (hw : swappedStores [tg] e X.env = pure none := by rfl) (h1 : (assignEach [tg] X.env).map (·.2) = [assign tg X.env] := by rfl) :
    DS pn X (.Assign [tg] e pos) (tAsg te g) (dAsg de dg) := ⟨ps_asg h.pe hg.pe hs hw h1, snd_asg h.sd hg.sd⟩
/-- name = something that is then the name's own -/
def dPut (i : Nat) (dq : dO) : dS := fun Dd env => dq env fun d e => inE i e = true ∧ Dd.nx (e.set i (some d))
theorem snd_put {i : Nat} (hp : i ∉ pn) (h : SndO m K te dq) : SndS pn K (tAsg te (gName i)) (dPut i dq) := ⟨fun {B H σ env G Dd D} w q n r k1 k2 => h.run w q fun d env' v F B' H' G' q1 w1 o1 s1 _ =>
  n _ _ B' H' _ q1.2 (w1.put (inE_lt q1.1) o1.rp o1.nd o1.nb fun a ha j _ => o1.ap a ha j) ⟨s1.ex, s1.kp, fun j a hm => by
    change a ∈ (if j = i then F else G' j) at hm
    split at hm
    · exact o1.nw a hm
    · exact s1.fp j a hm, s1.bs, s1.th⟩ (Pin.set hp)⟩
theorem ds_put {i : Nat} {tg : Expr} (h : DO false X e te dq) (hg : PG X tg (gName i)) (hp : i ∉ pn := by decide) (hs : swapsWithSole [tg] e pos.line X.env = pure false := by rfl) (hw : swappedStores [tg] e X.env = pure none := by rfl) (h1 : (assignEach [tg] X.env).map (·.2) = [assign tg X.env] := by rfl) :
    DS pn X (.Assign [tg] e pos) (tAsg te (gName i)) (dPut i dq) := ⟨ps_asg h.pe hg hs hw h1, snd_put hp h.sd⟩
theorem ds_setc {i : Nat} {tg : Expr} {st : Stmt} (h : PS X st (tAsg te (gName i))) (hq : SndO m X.K te dq) (hp : i ∉ pn := by decide) : DS pn X st (tAsg te (gName i)) (dPut i dq) := ⟨h, snd_put hp hq⟩
/-- return of a name that holds its own list: given away -/
def dRetV (i : Nat) : dS := fun Dd env => match env[i]? with
  | some (some d) => Dd.rt d (env.set i none)
  | _ => False
theorem Wd.drop {B H : Hp} {σ : L2.St} {env : Env} {G : Fp} (w : Wd K B H σ env G) (i : Nat) : Wd K B H σ (env.set i none) (fun j => if j = i then [] else G j) := by
  refine ⟨w.ex, fun j d' e' => ?_, fun j hn => ?_, fun j => ?_, fun j l a ha hb => ?_, fun j a ha => ?_, by rw [List.length_set]; exact w.len⟩
  · rcases set_some e' with ⟨_, e2, _⟩ | ⟨n, e'⟩
    · cases e2
    · obtain ⟨v', g1, g2⟩ := w.sl j d' e'
      refine ⟨v', g1, ?_⟩
      rw [if_neg fun q => n q.symm]
      exact g2
  · show (if j = i then [] else G j) = []
    split
    · rfl
    · rename_i n
      refine w.no j fun d' => ?_
      have := hn d'
      rw [List.getElem?_set_ne fun q => n q.symm] at this
      exact this
  · show (if j = i then [] else G j).Nodup
    split
    · exact List.nodup_nil
    · exact w.nd j
  · change a ∈ (if j = i then [] else G j) at ha
    change a ∈ (if l = i then [] else G l) at hb
    split at ha
    · cases ha
    · split at hb
      · cases hb
      · exact w.dj j l a ha hb
  · change a ∈ (if j = i then [] else G j) at ha
    split at ha
    · cases ha
    · exact w.nb j a ha
theorem snd_retV {i : Nat} : SndS pn K (tRet (tVar i)) (dRetV i) := ⟨fun {B H σ env G Dd D} w q n r k1 k2 => by
  unfold dRetV at q
  split at q
  · rename_i d hd
    obtain ⟨v, h1, h2⟩ := w.sl i d hd
    refine ⟨v, h1, r d _ σ v (G i) B H _ q (w.drop i) ⟨h2, w.nd i, w.nb i, fun a ha => .inl ⟨i, ha⟩, fun a ha j hj => ?_⟩ (stp_put fun _ h => absurd h List.not_mem_nil) .refl⟩
    change a ∈ (if j = i then [] else G j) at hj
    split at hj
    · cases hj
    · rename_i n
      exact n (w.dj j i a hj ha)
  · exact q.elim⟩
theorem ds_retV (i : Nat) (h : PE X e (tVar i)) : DS pn X (.Return (some e) pos) (tRet (tVar i)) (dRetV i) := ⟨ps_ret h, snd_retV⟩
end
end DL
set_option Elab.async false
set_option linter.all false
set_option maxRecDepth 100000
namespace DL
open PySem PySem.Spec L2
section
variable {pn : List Nat} {m : Bool} {K : PySem.W.Frag} {te ta tb ti to : TE} {de da db di : dE} {dq : dO} {tt : TT} {dt : dT} {t u : TS} {dt1 du : dS} {X : Cx} {a b c e : Expr} {st : Stmt} {rest sb : List Stmt} {pos : Pos}
/-! ### a slot's own list is changed -/
def ixQ (q : P) (o : Option (Option D)) (f : Int → List P → Prop) : Prop := match q, o with
  | .int k, some (some (.ol ps)) => f k ps
  | _, _ => False
theorem ixQ_is {q : P} {o : Option (Option D)} {f : Int → List P → Prop} (h : ixQ q o f) : ∃ k ps, q = .int k ∧ o = some (some (.ol ps)) ∧ f k ps := by
  unfold ixQ at h
  split at h
  · exact ⟨_, _, rfl, rfl, h⟩
  · exact h.elim
theorem Wd.chg {B H : Hp} {σ : L2.St} {env : Env} {G : Fp} {i : Nat} {d d' : D} {v : V} {l : Addr} {o : HO} (w : Wd K B H σ env G) (e : env[i]? = some (some d)) (hv : σ[i]? = some (some v)) (hl : l ∈ G i) (r : RpD K B (upd H l o) d' v (G i)) :
    Wd K B (upd H l o) σ (env.set i (some d')) G ∧ Stp B H G B (upd H l o) G := by
  have nB : B l = none := w.nb i l hl
  refine ⟨⟨fun a u h => ?_, fun j d2 h => ?_, fun j hn => ?_, w.nd, w.dj, w.nb, by rw [List.length_set]; exact w.len⟩, ⟨Ex.refl _, fun a u h n => ?_, fun j a h => .inl ⟨j, h⟩, fun _ _ _ h _ => h, fun a u h => ?_⟩⟩
  · rw [upd_ne (ne_of_none h nB)]; exact w.ex a u h
  · rcases set_some h with ⟨rfl, e2, _⟩ | ⟨n, h⟩
    · cases e2; exact ⟨v, hv, r⟩
    · obtain ⟨v', h1, h2⟩ := w.sl j d2 h
      refine ⟨v', h1, RpD.mono (Ex.refl B) h2 fun a ha u hu => ?_⟩
      rw [upd_ne fun q => n (w.dj i j a (by rw [q]; exact hl) ha)]
      exact hu
  · refine w.no j fun d2 h => ?_
    by_cases q : i = j
    · subst q; exact hn d' (List.getElem?_set_self (env_lt e))
    · exact hn d2 (by rw [List.getElem?_set_ne q]; exact h)
  · rw [upd_ne fun q => n i (by rw [q]; exact hl)]; exact h
  · by_cases q : a = l
    · subst q; exact ⟨_, upd_same⟩
    · exact ⟨u, by rw [upd_ne q]; exact h⟩
theorem Wd.app {B H : Hp} {σ : L2.St} {env : Env} {G : Fp} {i : Nat} {ps : List P} {l : Addr} {vs : List V} {p : P} {y : V} (w : Wd K B H σ env G) (e : env[i]? = some (some (.ol ps))) (hv : σ[i]? = some (some (.ref l))) (hG : G i = [l]) (hl : H l = some (.lst vs)) (r : RpA K B ps vs) (rp : Rp K B p y) :
    Wd K B (upd H l (.lst (vs ++ [y]))) σ (env.set i (some (.ol (ps ++ [p])))) G ∧ Stp B H G B (upd H l (.lst (vs ++ [y]))) G :=
  w.chg e hv (by rw [hG]; exact List.mem_cons_self) ⟨l, _, hG, rfl, upd_same, r.append (RpA.one rp)⟩
/-- i.append(e) -/
def dApp (i : Nat) (de : dE) : dS := fun Dd env => match env[i]? with
  | some (some (.ol _)) => de env fun p e => match e[i]? with
    | some (some (.ol ps)) => ps.length < sizeLine ∧ Dd.nx (e.set i (some (.ol (ps ++ [p]))))
    | _ => False
  | _ => False
theorem snd_app {i : Nat} (h : SndE m K te de) : SndS pn K (tDrop (tBM K "list" rAppend (tVar i) (tCons te tNil))) (dApp i de) := ⟨fun {B H σ env G Dd D} w q n r k1 k2 => by
  unfold dApp at q
  split at q
  · rename_i ps0 hd
    obtain ⟨v, h1, a0, vs0, _, rfl, h4, _⟩ := w.sl i _ hd
    refine ⟨.ref a0, h1, .inl ⟨rfl, _, SqL.of h4⟩, ?_⟩
    refine h.run w q fun p e v2 B1 H1 G1 q1 w1 r1 s1 _ => ?_
    change (match e[i]? with | some (some (.ol ps)) => ps.length < sizeLine ∧ Dd.nx (e.set i (some (.ol (ps ++ [p])))) | _ => False) at q1
    split at q1
    · rename_i ps hd1
      obtain ⟨v3, g1, a1, vs, g2, g3, g4, g5⟩ := w1.sl i _ hd1
      rw [h1] at g1
      cases g1
      cases g3
      refine ⟨a0, vs, v2, rfl, rfl, g4, by rw [g5.length]; exact q1.1, ?_⟩
      obtain ⟨w2, s2⟩ := w1.app hd1 h1 g2 g4 g5 r1
      exact n _ σ B1 _ G1 q1.2 w2 (s1.trans s2) .refl
    · exact q1.elim
  · exact q.elim⟩
theorem ds_app {i : Nat} {o : Expr} {apos cpos : Pos} (h : PA X [e] (tCons te tNil) → PE X (.Call (.Attribute o "append" apos) [e] [] cpos) (tBM X.K "list" rAppend (tVar i) (tCons te tNil))) (he : DE false X e te de)
    (hs : swapsWith (.Call (.Attribute o "append" apos) [e] [] cpos) none pos.line X.env = pure false := by rfl) (hs2 : starEach [e] X.env = (false, eval e X.env) :: starEach [] X.env := by rfl) :
    DS pn X (.Expr (.Call (.Attribute o "append" apos) [e] [] cpos) pos) (tDrop (tBM X.K "list" rAppend (tVar i) (tCons te tNil))) (dApp i de) := ⟨ps_expr (h (pa_cons he.pe pa_nil hs2)) hs, snd_app he.sd⟩
/-- i[k] = e -/
def dSetI (i : Nat) (dk de : dE) : dS := fun Dd env => de env fun p e1 => match e1[i]? with
  | some (some (.ol _)) => dk e1 fun q e2 => ixQ q e2[i]? fun k ps => ∃ j, ixN ps.length k = some j ∧ Dd.nx (e2.set i (some (.ol (ps.set j p))))
  | _ => False
theorem snd_setI {i : Nat} (hk : SndE m K ti di) (h : SndE m K te de) : SndS pn K (tAsg te (gSub (tVar i) ti rSetL)) (dSetI i di de) := ⟨fun {B H σ env G Dd D} w q n r k1 k2 => by
  refine h.run w q fun p e1 v2 B1 H1 G1 q1 w1 r1 s1 _ => ?_
  change (match e1[i]? with | some (some (.ol _)) => di e1 _ | _ => False) at q1
  split at q1
  · rename_i ps0 hd
    obtain ⟨v, h1, a0, vs0, _, rfl, h4, _⟩ := w1.sl i _ hd
    refine ⟨.ref a0, h1, ?_⟩
    refine hk.run w1 q1 fun q e2 v3 B2 H2 G2 q2 w2 r2 s2 _ => ?_
    obtain ⟨k, ps, rfl, hd2, q2⟩ := ixQ_is q2
    · obtain ⟨v4, g1, a1, vs, g2, g3, g4, g5⟩ := w2.sl i _ hd2
      rw [h1] at g1
      cases g1
      cases g3
      obtain ⟨j, hj, q2⟩ := q2
      refine ⟨a0, vs, k, j, rfl, r2, g4, by rw [g5.length]; exact hj, ?_⟩
      obtain ⟨w3, s3⟩ := w2.chg (d' := .ol (ps.set j p)) (o := .lst (vs.set j v2)) (l := a0) hd2 h1 (by rw [g2]; exact List.mem_cons_self) ⟨a0, _, g2, rfl, upd_same, g5.set (Rp.mono s2.ex p r1)⟩
      exact n _ σ B2 _ G2 q2 w3 ((s1.trans s2).trans s3) .refl
  · exact q1.elim⟩
theorem ds_setI {i : Nat} {tg : Expr} (hg : PE X b ti → PG X tg (gSub (tVar i) ti rSetL)) (hk : DE false X b ti di) (he : DE false X e te de)
    (hs : swapsWithSole [tg] e pos.line X.env = pure false := by rfl) (hw : swappedStores [tg] e X.env = pure none := by rfl) (h1 : (assignEach [tg] X.env).map (·.2) = [assign tg X.env] := by rfl) :
    DS pn X (.Assign [tg] e pos) (tAsg te (gSub (tVar i) ti rSetL)) (dSetI i di de) := ⟨ps_asg he.pe (hg hk.pe) hs hw h1, snd_setI hk.sd he.sd⟩

/-! ### an own list, read and let go -/
def scl : P → Prop
  | .non => True
  | .bl _ => True
  | .int _ => True
  | .str _ => True
  | .ob _ => True
  | _ => False
theorem scl_rp {B B' : Hp} {p : P} {v : V} (h : scl p) (r : Rp K B p v) : Rp K B' p v := by
  cases p <;> first | exact r | exact h.elim
def dLend (i : Nat) (de : dE) : dE := fun env Q => match env[i]? with
  | some (some d) => de (env.set i (some (.sh d.frz))) fun p _ => scl p ∧ Q p env
  | _ => False
theorem Wd.lent {B H : Hp} {σ : L2.St} {env : Env} {G : Fp} {i : Nat} {d : D} (w : Wd K B H σ env G) (e : env[i]? = some (some d)) :
    Wd K (frzB B H (G i)) H σ (env.set i (some (.sh d.frz))) (fun j => if j = i then [] else G j) := by
  obtain ⟨v, h1, h2⟩ := w.sl i _ e
  have nb : ∀ a ∈ G i, B a = none := fun a ha => w.nb i a ha
  have w1 := (w.drop i).frzO (F := G i) nb (fun a ha j hj => by
    change a ∈ (if j = i then [] else G j) at hj
    split at hj
    · cases hj
    · rename_i n; exact n (w.dj j i a hj ha))
  have w2 := w1.put (i := i) (d := .sh d.frz) (v := v) (F := []) (by rw [List.length_set]; exact env_lt e) ⟨rfl, frz_rp nb h2⟩ List.nodup_nil (fun _ h => absurd h List.not_mem_nil) (fun _ h => absurd h List.not_mem_nil)
  rw [set_id h1, List.set_set] at w2
  have : (fun j => if j = i then ([] : List Addr) else if j = i then [] else G j) = fun j => if j = i then [] else G j := by
    funext j; split <;> rfl
  rw [this] at w2
  exact w2
theorem snd_lend {i : Nat} (h : SndE true K te de) : SndE m K te (dLend i de) := ⟨fun {B H σ env G QD Q} w q k => by
  unfold dLend at q
  split at q
  · rename_i d hd
    refine h.run (w.lent hd) q fun p e v B1 H1 G1 q1 w1 r1 s1 u1 => ?_
    obtain ⟨_, _, g⟩ := u1 rfl
    have g2 : Gr B H B H1 := ⟨Ex.refl _, g.h, w.ex.trans g.h, fun a o h n => n⟩
    exact k p env v B H1 G q1.2 (w.gr g2) (scl_rp q1.1 r1) g2.stp (.gr g2)
  · exact q.elim⟩
theorem de_lend (i : Nat) (h : DE true X a te de) : DE m X a te (dLend i de) := ⟨h.pe, snd_lend h.sd⟩
def dLendT (i : Nat) (de : dT) : dT := fun env Q => match env[i]? with
  | some (some d) => de (env.set i (some (.sh d.frz))) fun p _ => Q p env
  | _ => False
theorem snd_lendT {i : Nat} (h : SndT true K tt dt) : SndT m K tt (dLendT i dt) := ⟨fun {B H σ env G QD Q} w q k => by
  unfold dLendT at q
  split at q
  · rename_i d hd
    refine h.run (w.lent hd) q fun b e B1 H1 G1 q1 w1 s1 u1 => ?_
    obtain ⟨_, _, g⟩ := u1 rfl
    have g2 : Gr B H B H1 := ⟨Ex.refl _, g.h, w.ex.trans g.h, fun a o h n => n⟩
    exact k b env B H1 G q1 (w.gr g2) g2.stp (.gr g2)
  · exact q.elim⟩
theorem dt_lend (i : Nat) (h : DT true X a tt dt) : DT m X a tt (dLendT i dt) := ⟨h.pe, snd_lendT h.sd⟩
/-- i[k] of an own list: the item is plain -/
def dItm (i : Nat) (dk : dE) : dE := fun env Q => match env[i]? with
  | some (some (.ol _)) => dk env fun q e => ixQ q e[i]? fun k ps => ∃ p, atI ps k = some p ∧ Q p e
  | _ => False
theorem atI_rp {B : Hp} {ps : List P} {vs : List V} {k : Int} {p : P} (r : RpA K B ps vs) (h : atI ps k = some p) : ∃ v, atI vs k = some v ∧ Rp K B p v := by
  unfold atI at h ⊢
  rw [r.length]
  cases hx : ixN ps.length k with
  | none => rw [hx] at h; cases h
  | some j =>
    rw [hx] at h
    exact r.get h
theorem snd_itm {i : Nat} (hk : SndE m K ti di) : SndE m K (tOp (rIxL K) (tVar i) ti) (dItm i di) := ⟨fun {B H σ env G QD Q} w q k => by
  unfold dItm at q
  split at q
  · rename_i ps0 hd
    obtain ⟨v, h1, a0, vs0, _, rfl, h4, _⟩ := w.sl i _ hd
    refine ⟨.ref a0, h1, ?_⟩
    refine hk.run w q fun q e2 v3 B2 H2 G2 q2 w2 r2 s2 u2 => ?_
    obtain ⟨kk, ps, rfl, hd2, q2⟩ := ixQ_is q2
    · obtain ⟨v4, g1, a1, vs, g2, g3, g4, g5⟩ := w2.sl i _ hd2
      rw [h1] at g1
      cases g1
      cases g3
      obtain ⟨p, hp, q2⟩ := q2
      obtain ⟨z, hz, rz⟩ := atI_rp g5 hp
      exact ⟨a0, vs, kk, z, rfl, r2, SqL.of g4, hz, k p e2 z B2 H2 G2 q2 w2 rz s2 u2⟩
  · exact q.elim⟩
theorem de_itm (i : Nat) (h : PE X b ti → PE X e (tOp (rIxL X.K) (tVar i) ti)) (hk : DE m X b ti di) : DE m X e (tOp (rIxL X.K) (tVar i) ti) (dItm i di) := ⟨h hk.pe, snd_itm hk.sd⟩

/-! ### loops -/
/-- what a walk yields, wherever it goes on from B0 -/
def ItOk (K : PySem.W.Frag) (J : It) (B0 : Hp) (ps : List P) : Prop := ∀ (B H : Hp) (i : Nat), Ex B0 B → Ex B H → i ≤ ps.length →
  (∀ p, ps[i]? = some p → J.go i H ∧ ∀ x H', J.yld i H x H' → ∃ B', Gr B H B' H' ∧ Rp K B' p x) ∧ (ps.length ≤ i → J.stop i H)
abbrev dI := Env → (List P → Env → Prop) → Prop
structure SndI (m : Bool) (K : PySem.W.Frag) (wi : TI) (di : dI) : Prop where
  run : ∀ {B H : Hp} {σ : L2.St} {env : Env} {G : Fp} {QD : List P → Env → Prop} {R : It → Hp → Prop}, Wd K B H σ env G → di env QD →
    (∀ ps env' B' H' G' J, QD ps env' → Wd K B' H' σ env' G' → Stp B H G B' H' G' → Pure m env env' G G' B H B' H' → ItOk K J B' ps → R J H') → wi σ H R
structure DI (m : Bool) (X : Cx) (tg iter : Expr) (wi : TI) (di : dI) : Prop where
  pe : PI X tg iter wi
  sd : SndI m X.K wi di
def dFor (di : dI) (dg : dG) (body : dS) : dS := fun Dd env => di env fun ps env1 => ∃ Inv : Nat → Env → Prop, Inv 0 env1 ∧
  (∀ i p e, ps[i]? = some p → Inv i e → dg p e fun e2 => body { Dd with nx := Inv (i + 1), ct := Inv (i + 1), bk := Dd.nx } e2) ∧ ∀ e, Inv ps.length e → Dd.nx e
variable {wi : TI} {dw : dI} {g : TG} {dg : dG}
theorem snd_for (hi : SndI m K wi dw) (hg : SndG pn K g dg) (hb : SndS pn K t dt1) : SndS pn K (tFor wi g t) (dFor dw dg dt1) := ⟨fun {B H σ env G Dd D} w q n r k1 k2 => by
  refine hi.run w q fun ps env1 B1 H1 G1 J q1 w1 s1 _ hJ => ?_
  obtain ⟨Inv, i0, turn, done⟩ := q1
  let W : Nat → L2.St → Hp → Prop := fun i σ' H' => ∃ env' B' G', Inv i env' ∧ Wd K B' H' σ' env' G' ∧ Stp B1 H1 G1 B' H' G' ∧ Pin pn σ σ'
  refine ⟨fun i mm σ' H' => mm = ps.length - i ∧ i ≤ ps.length ∧ W i σ' H', ⟨_, rfl, Nat.zero_le _, env1, B1, G1, i0, w1, .refl, .refl⟩, ?_⟩
  rintro i mm σ' H' ⟨rfl, hle, env', B', G', hI, w', s', p'⟩
  obtain ⟨hgo, hst⟩ := hJ B' H' i s'.ex w'.ex hle
  by_cases hlt : i < ps.length
  · obtain ⟨go, yl⟩ := hgo ps[i] (List.getElem?_eq_getElem hlt)
    refine .inr ⟨go, W (i + 1), fun σ2 H2 h2 => ⟨ps.length - (i + 1), by omega, rfl, hlt, h2⟩, fun x H2 y => ?_⟩
    obtain ⟨B2, g2, r2⟩ := yl x H2 y
    have w2 := w'.gr g2
    have s2 := s'.trans (g2.stp (G := G'))
    refine hg.run w2 r2 (turn i ps[i] env' (List.getElem?_eq_getElem hlt) hI) fun env3 σ3 G3 q3 w3 g3 p3 => ?_
    have st3 := s2.trans (stp_g g3)
    have pi3 := p'.trans p3
    refine hb.run (D := { D with nx := W (i + 1), ct := W (i + 1), bk := D.nx }) w3 q3 ?_ ?_ ?_ ?_
    · exact fun env4 σ4 B4 H4 G4 q4 w4 s4 p4 => ⟨env4, B4, G4, q4, w4, st3.trans s4, pi3.trans p4⟩
    · exact r.at (s1.trans st3) pi3
    · exact n.at (s1.trans st3) pi3
    · exact fun env4 σ4 B4 H4 G4 q4 w4 s4 p4 => ⟨env4, B4, G4, q4, w4, st3.trans s4, pi3.trans p4⟩
  · have e : i = ps.length := by omega
    subst e
    exact .inl ⟨hst (Nat.le_refl _), n env' σ' B' H' G' (done env' hI) w' (s1.trans s') p'⟩⟩
theorem ds_for {tg iter : Expr} {body : List Stmt} (hp : PassesOwn (model X.prog X.w) X.A X.env X.xe) (hc : X.calm = true) (hi : DI false X tg iter wi dw) (hg : DG pn X tg g dg) (hb : DSs pn X body t dt1)
    (hs : ∀ x, foldedSetIterable iter X.env x = pure x := by intro _; rfl) : DS pn X (.For tg iter body [] pos) (tFor wi g t) (dFor dw dg dt1) := ⟨ps_for hp hc hi.pe hg.pe hb.pe hs, snd_for hi.sd hg.sd hb.sd⟩
def dWhile (dt : dT) (body : dS) : dS := fun Dd env => ∃ W : Nat → Env → Prop, (∃ m, W m env) ∧ ∀ m e, W m e → dt e fun b e1 => cnd b (body { Dd with nx := fun e2 => ∃ m', m' < m ∧ W m' e2, ct := fun e2 => ∃ m', m' < m ∧ W m' e2, bk := Dd.nx } e1) (Dd.nx e1)
theorem snd_while (hc : SndT m K tt dt) (hb : SndS pn K t dt1) : SndS pn K (tWhile tt t) (dWhile dt dt1) := ⟨fun {B H σ env G Dd D} w q n r k1 k2 => by
  obtain ⟨W, ⟨m0, w0⟩, turn⟩ := q
  let Wx : Nat → L2.St → Hp → Prop := fun mm σ' H' => ∃ env' B' G', W mm env' ∧ Wd K B' H' σ' env' G' ∧ Stp B H G B' H' G' ∧ Pin pn σ σ'
  refine ⟨Wx, ⟨m0, env, B, G, w0, w, .refl, .refl⟩, ?_⟩
  rintro mm σ' H' ⟨env', B', G', hI, w', s', p'⟩
  refine hc.run w' (turn mm env' hI) fun b e1 B1 H1 G1 q1 w1 s1 _ => ?_
  have st := s'.trans s1
  cases b with
  | true =>
    replace q1 := q1.1 rfl
    rw [if_pos rfl]
    refine ⟨fun σ2 H2 => ∃ m', m' < mm ∧ Wx m' σ2 H2, fun _ _ h => h, ?_⟩
    refine hb.run (D := { D with nx := fun σ2 H2 => ∃ m', m' < mm ∧ Wx m' σ2 H2, ct := fun σ2 H2 => ∃ m', m' < mm ∧ Wx m' σ2 H2, bk := D.nx }) w1 q1 ?_ (r.at st p') (n.at st p') ?_
    · exact fun env4 σ4 B4 H4 G4 ⟨m', hm, q4⟩ w4 s4 p4 => ⟨m', hm, env4, B4, G4, q4, w4, st.trans s4, p'.trans p4⟩
    · exact fun env4 σ4 B4 H4 G4 ⟨m', hm, q4⟩ w4 s4 p4 => ⟨m', hm, env4, B4, G4, q4, w4, st.trans s4, p'.trans p4⟩
  | false =>
    replace q1 := q1.2 rfl
    rw [if_neg Bool.false_ne_true]
    exact n e1 σ' B1 H1 G1 q1 w1 st p'⟩
theorem ds_while {body : List Stmt} (hp : PassesOwn (model X.prog X.w) X.A X.env X.xe) (hc : DT false X c tt dt) (hb : DSs pn X body t dt1) : DS pn X (.While c body [] pos) (tWhile tt t) (dWhile dt dt1) := ⟨ps_while hp hc.pe hb.pe, snd_while hc.sd hb.sd⟩

/-! ### what is walked -/
def plst : P → Option (List P)
  | .lst ps => some ps
  | .rol ps => some ps
  | _ => none
def diL (de : dE) : dI := fun env Q => de env fun p e => match plst p with
  | some ps => Q ps e
  | none => False
theorem plst_rp {B : Hp} {p : P} {v : V} {ps : List P} (r : Rp K B p v) (h : plst p = some ps) : ∃ a vs, v = .ref a ∧ SqL K B a vs ∧ RpA K B ps vs := by
  cases p with
  | lst qs => cases h; obtain ⟨a, vs, e1, e2, e3⟩ := r; exact ⟨a, vs, e1, SqL.of e2, e3⟩
  | rol qs => cases h; obtain ⟨a, vs, e1, e2, e3⟩ := r; exact ⟨a, vs, e1, e2, e3⟩
  | _ => cases h
/-- a list that is plain is one list, whatever is told of it -/
theorem snd_il (h : SndE m K te de) : SndI m K (iList K te) (diL de) := ⟨fun {B H σ env G QD R} w q k => h.run w q fun p e v B1 H1 G1 q1 w1 r1 s1 u1 => by
  change (match plst p with | some ps => QD ps e | none => False) at q1
  split at q1
  · rename_i ps hp
    obtain ⟨a, vs, rfl, h2, h3⟩ := plst_rp r1 hp
    refine ⟨a, rfl, ⟨vs, w1.ex.sqL h2⟩, k ps e B1 H1 G1 _ q1 w1 s1 u1 fun B' H' i e1 e2 _ => ⟨fun p hp => ?_, fun hle => ⟨vs, (e1.trans e2).sqL h2, by rw [h3.length]; exact hle⟩⟩⟩
    obtain ⟨x, hx, rx⟩ := h3.get hp
    refine ⟨⟨vs, x, (e1.trans e2).sqL h2, hx⟩, fun y H2 hy => ?_⟩
    obtain ⟨rfl, hy⟩ := hy
    have := hy vs ((e1.trans e2).sqL h2)
    rw [hx] at this
    cases this
    exact ⟨B', .refl e2, Rp.mono e1 _ rx⟩
  · exact q1.elim⟩
end
end DL
set_option Elab.async false
set_option linter.all false
set_option maxRecDepth 100000
namespace DL
open PySem PySem.Spec L2
section
variable {pn : List Nat} {m : Bool} {K : PySem.W.Frag} {te ta tb ti to : TE} {de da db di : dE} {dq : dO} {tt : TT} {dt : dT} {t u : TS} {dt1 du : dS} {X : Cx} {a b c e : Expr} {st : Stmt} {rest sb : List Stmt} {pos : Pos}
variable {wi : TI} {dw : dI} {g : TG} {dg : dG}
/-! ### comprehensions -/
def lenE : Nat → Env → Bool
  | _, [] => true
  | 0, _ :: _ => false
  | n + 1, _ :: e => lenE n e
theorem lenE_le : ∀ {n : Nat} {e : Env}, lenE n e = true → e.length ≤ n
  | _, [], _ => Nat.zero_le _
  | 0, _ :: _, h => by cases h
  | n + 1, _ :: e, h => Nat.succ_le_succ (lenE_le (n := n) (e := e) h)
def wipeE (e : Env) : List Nat → Env
  | [] => e
  | v :: vs => (wipeE e vs).set v none
def wipeG (G : Fp) : List Nat → Fp
  | [] => G
  | v :: vs => fun j => if j = v then [] else wipeG G vs j
theorem wipeG_sub {G : Fp} : ∀ {vs : List Nat} {i : Nat} {a : Addr}, a ∈ wipeG G vs i → a ∈ G i
  | [], _, _, h => h
  | v :: vs, i, a, h => by
    change a ∈ (if i = v then [] else wipeG G vs i) at h
    split at h
    · cases h
    · exact wipeG_sub h
theorem Wd.setN {B H : Hp} {σ : L2.St} {env : Env} {G : Fp} {i : Nat} {x : Option V} (w : Wd K B H σ env G) (n : ∀ d, env[i]? ≠ some (some d)) : Wd K B H (σ.set i x) env G where
  ex := w.ex
  sl := fun j d e => by
    obtain ⟨v, h1, h2⟩ := w.sl j d e
    refine ⟨v, ?_, h2⟩
    rw [List.getElem?_set_ne fun q => n d (by rw [q]; exact e)]
    exact h1
  no := w.no
  nd := w.nd
  dj := w.dj
  nb := w.nb
  len := by rw [List.length_set]; exact w.len
theorem wipeE_none {e : Env} : ∀ {vs : List Nat} {i : Nat}, i ∈ vs → ∀ d, (wipeE e vs)[i]? ≠ some (some d)
  | v :: vs, i, h, d, q => by
    change ((wipeE e vs).set v none)[i]? = _ at q
    rcases set_some q with ⟨_, e2, _⟩ | ⟨n, q⟩
    · cases e2
    · rcases List.mem_cons.mp h with h | h
      · exact n h.symm
      · exact wipeE_none h d q
theorem Wd.wipe {B H : Hp} {σ : L2.St} {env : Env} {G : Fp} (w : Wd K B H σ env G) : ∀ vs : List Nat, Wd K B H (L2.wipe σ vs) (wipeE env vs) (wipeG G vs)
  | [] => w
  | v :: vs => by
    have w1 := (Wd.wipe w vs).drop v
    refine Wd.setN w1 fun d q => ?_
    rcases set_some q with ⟨_, e2, _⟩ | ⟨n, q⟩
    · cases e2
    · exact n rfl
/-- the names of the block are nothing to the slots around it -/
theorem Wd.unwipe {B H : Hp} {σ σ2 : L2.St} {env : Env} {G : Fp} {vs : List Nat} (w : Wd K B H σ2 env G) (h : L2.wipe σ2 vs = L2.wipe σ vs) (hl : σ2.length = σ.length) : Wd K B H σ (wipeE env vs) (wipeG G vs) := by
  have w1 := w.wipe vs
  rw [h] at w1
  refine ⟨w1.ex, fun j d e => ?_, w1.no, w1.nd, w1.dj, w1.nb, by rw [← hl, ← w.len]; exact (show (wipeE env vs).length = env.length from by
    clear w1 h w
    induction vs with
    | nil => rfl
    | cons v vs ih => show ((wipeE env vs).set v none).length = _; rw [List.length_set, ih])⟩
  obtain ⟨v, h1, h2⟩ := w1.sl j d e
  exact ⟨v, (L2.wipe_some h1).1, h2⟩
theorem wipe_get {σ : L2.St} : ∀ (vs : List Nat) (i : Nat), (L2.wipe σ vs)[i]? = if i ∈ vs ∧ i < σ.length then some none else σ[i]?
  | [], i => by simp [L2.wipe]
  | v :: vs, i => by
    show ((L2.wipe σ vs).set v none)[i]? = _
    by_cases h : v = i
    · subst h
      by_cases hl : v < σ.length
      · rw [List.getElem?_set_self (by rw [L2.wipe_length]; exact hl), if_pos ⟨List.mem_cons_self, hl⟩]
      · rw [List.getElem?_eq_none (by rw [List.length_set, L2.wipe_length]; omega), if_neg fun q => hl q.2, List.getElem?_eq_none (by omega)]
    · rw [List.getElem?_set_ne h, wipe_get vs i]
      have : i ∈ v :: vs ↔ i ∈ vs := ⟨fun q => (List.mem_cons.mp q).elim (fun z => absurd z.symm h) id, List.mem_cons_of_mem _⟩
      simp only [this]
/-- the slots besides vs, of n -/
def others (n : Nat) (vs : List Nat) : List Nat := (List.range n).filter fun i => !vs.contains i
theorem wipe_pin {σ σ2 : L2.St} {n : Nat} {vs : List Nat} (h : Pin (others n vs) (L2.wipe σ vs) σ2) (hn : σ.length ≤ n) : L2.wipe σ2 vs = L2.wipe σ vs := by
  apply List.ext_getElem?
  intro i
  have hl := h.1
  rw [L2.wipe_length] at hl
  rw [wipe_get, wipe_get, hl]
  by_cases hi : i ∈ vs ∧ i < σ.length
  · rw [if_pos hi, if_pos hi]
  · rw [if_neg hi, if_neg hi]
    by_cases hlt : i < σ.length
    · have hv : i ∉ vs := fun q => hi ⟨q, hlt⟩
      have := h.2 i (List.mem_filter.mpr ⟨List.mem_range.mpr (by omega), by simpa using hv⟩)
      rw [this, wipe_get, if_neg hi]
    · rw [List.getElem?_eq_none (by omega), List.getElem?_eq_none (by omega)]
/-- the list that grows: no slot's, not plain yet -/
structure Acc (K : PySem.W.Frag) (B H : Hp) (G : Fp) (l : Addr) (ps : List P) : Prop where
  at_ : ∃ vs, H l = some (.lst vs) ∧ RpA K B ps vs
  nb : B l = none
  ap : ∀ i, l ∉ G i
theorem Acc.stp {B H B' H' : Hp} {G G' : Fp} {l : Addr} {ps : List P} (a : Acc K B H G l ps) (s : Stp B H G B' H' G') : Acc K B' H' G' l ps := by
  obtain ⟨vs, h1, h2⟩ := a.at_
  refine ⟨⟨vs, s.kp l _ h1 a.ap, RpA.mono s.ex ps h2⟩, s.bs l _ h1 a.nb a.ap, fun i hi => ?_⟩
  rcases s.fp i l hi with ⟨j, hj⟩ | hn
  · exact a.ap j hj
  · rw [h1] at hn; cases hn
theorem Acc.wd {B H : Hp} {σ : L2.St} {env : Env} {G : Fp} {l : Addr} {ps : List P} {u : HO} (a : Acc K B H G l ps) (w : Wd K B H σ env G) : Wd K B (upd H l u) σ env G where
  ex := fun x o h => by rw [upd_ne (ne_of_none h a.nb)]; exact w.ex x o h
  sl := fun i d e => by
    obtain ⟨v, h1, h2⟩ := w.sl i d e
    refine ⟨v, h1, RpD.mono (Ex.refl B) h2 fun x hx o ho => ?_⟩
    rw [upd_ne fun q => a.ap i (by rw [← q]; exact hx)]
    exact ho
  no := w.no
  nd := w.nd
  dj := w.dj
  nb := w.nb
  len := w.len
def dLc (di : dI) (dg : dG) (dt : dT) (de : dE) (n : Nat) (vs : List Nat) : dO := fun env Q => di env fun ps env1 => lenE n env1 = true ∧ ∃ Inv : Nat → List P → Env → Prop, Inv 0 [] env1 ∧
  (∀ i p acc e, ps[i]? = some p → Inv i acc e → dg p (wipeE e vs) fun e2 => dt e2 fun b e3 => cnd b (de e3 fun y e4 => acc.length < sizeLine ∧ Inv (i + 1) (acc ++ [y]) (wipeE e4 vs)) (Inv (i + 1) acc (wipeE e3 vs))) ∧
  ∀ acc e, Inv ps.length acc e → Q (.ol acc) e
/-- from one world to another, the growing list aside -/
structure St2 (B H : Hp) (G : Fp) (l : Addr) (B' H' : Hp) (G' : Fp) : Prop where
  ex : Ex B B'
  kp : ∀ a o, H a = some o → (∀ i, a ∉ G i) → H' a = some o
  fp : ∀ i a, a ∈ G' i → (∃ j, a ∈ G j) ∨ H a = none
  bs : ∀ a o, H a = some o → B a = none → (∀ i, a ∉ G i) → B' a = none
  th : ∀ a o, H a = some o → ∃ o', H' a = some o'
theorem stp_new {B H : Hp} {G : Fp} {l : Addr} {u : HO} (h : H l = none) : Stp B H G B (upd H l u) G :=
  ⟨Ex.refl _, fun a o k _ => by rw [upd_ne (ne_of_none k h)]; exact k, fun i a k => .inl ⟨i, k⟩, fun _ _ _ k _ => k, fun a o k => ⟨o, by rw [upd_ne (ne_of_none k h)]; exact k⟩⟩
/-- what was there at the start is kept while the new list at l grows -/
theorem Stp.grow {B H B' H' : Hp} {G G' : Fp} {l : Addr} {u : HO} (s : Stp B H G B' H' G') (h : H l = none) : Stp B H G B' (upd H' l u) G' :=
  ⟨s.ex, fun a o k n => by rw [upd_ne (ne_of_none k h)]; exact s.kp a o k n, s.fp, s.bs, fun a o k => by
    obtain ⟨o', e⟩ := s.th a o k
    exact ⟨o', by rw [upd_ne (ne_of_none k h)]; exact e⟩⟩
theorem Stp.wipeG {B H B' H' : Hp} {G G' : Fp} {vs : List Nat} (s : Stp B H G B' H' G') : Stp B H G B' H' (DL.wipeG G' vs) := ⟨s.ex, s.kp, fun i a k => s.fp i a (wipeG_sub k), s.bs, s.th⟩
theorem snd_lc {n : Nat} {vs : List Nat} (hi : SndI m K wi dw) (hg : SndG (others n vs) K g dg) (ht : SndT m K tt dt) (he : SndE m K te de) : SndO false K (tLc wi g tt te vs) (dLc dw dg dt de n vs) := ⟨fun {B H σ env G QD Q} w q k => by
  refine hi.run w q fun ps env1 B1 H1 G1 J q1 w1 s1 _ hJ => ?_
  obtain ⟨hn, Inv, i0, turn, done⟩ := q1
  have hσ : σ.length ≤ n := by rw [← w1.len]; exact lenE_le hn
  intro l hl
  -- the invariant of the loop
  let Wx : Nat → Hp → Prop := fun i H' => ∃ acc env' B' G', Inv i acc env' ∧ Wd K B' H' σ env' G' ∧ Stp B1 H1 G1 B' H' G' ∧ Acc K B' H' G' l acc
  refine ⟨fun i mm H' => mm = ps.length - i ∧ i ≤ ps.length ∧ Wx i H', ⟨_, rfl, Nat.zero_le _, [], env1, B1, G1, i0, ?_, stp_new hl, ⟨⟨[], upd_same, rfl⟩, w1.ex.back hl, fun i hi => w1.off hl i hi⟩⟩, ?_⟩
  · exact w1.gr ⟨Ex.refl _, fun a u k => by rw [upd_ne (ne_of_none k hl)]; exact k, fun a u k => by rw [upd_ne (ne_of_none (w1.ex a u k) hl)]; exact w1.ex a u k, fun a u k n => n⟩
  rintro i mm H' ⟨rfl, hle, acc, env', B', G', hI, w', s', a'⟩
  obtain ⟨hgo, hst⟩ := hJ B' H' i s'.ex w'.ex hle
  by_cases hlt : i < ps.length
  · obtain ⟨go, yl⟩ := hgo ps[i] (List.getElem?_eq_getElem hlt)
    refine .inr ⟨go, Wx (i + 1), fun H2 h2 => ⟨ps.length - (i + 1), by omega, rfl, hlt, h2⟩, fun x H2 y => ?_⟩
    obtain ⟨B2, g2, r2⟩ := yl x H2 y
    have w2 := (w'.gr g2).wipe vs
    have s2 := (s'.trans (g2.stp (G := G'))).wipeG (vs := vs)
    have a2 := a'.stp (G' := wipeG G' vs) ((g2.stp (G := G')).wipeG (vs := vs))
    refine hg.run w2 r2 (turn i ps[i] acc env' (List.getElem?_eq_getElem hlt) hI) fun env3 σ3 G3 q3 w3 g3 p3 => ?_
    have hw3 := wipe_pin p3 hσ
    have hl3 : σ3.length = σ.length := by rw [p3.1, L2.wipe_length]
    refine ⟨hw3, ?_⟩
    have s3 := s2.trans (stp_g g3)
    have a3 := a2.stp (stp_g g3)
    refine ht.run w3 q3 fun bb env4 B4 H4 G4 q4 w4 s4 _ => ?_
    have st4 := s3.trans s4
    have a4 := a3.stp s4
    cases bb with
    | true =>
      replace q4 := q4.1 rfl
      rw [if_pos rfl]
      refine he.run w4 q4 fun p5 env5 v5 B5 H5 G5 q5 w5 r5 s5 _ => ?_
      have st5 := st4.trans s5
      have a5 := a4.stp s5
      obtain ⟨vs5, h5, rp5⟩ := a5.at_
      refine ⟨vs5, h5, by rw [rp5.length]; exact q5.1, acc ++ [p5], wipeE env5 vs, B5, wipeG G5 vs, q5.2, ?_, ?_, ?_⟩
      · have a6 : Acc K B5 H5 (wipeG G5 vs) l acc := ⟨a5.at_, a5.nb, fun i hi => a5.ap i (wipeG_sub hi)⟩
        exact a6.wd (w5.unwipe hw3 hl3)
      · exact (st5.wipeG).grow hl
      · exact ⟨⟨_, upd_same, rp5.append (RpA.one r5)⟩, a5.nb, fun i hi => a5.ap i (wipeG_sub hi)⟩
    | false =>
      replace q4 := q4.2 rfl
      rw [if_neg Bool.false_ne_true]
      exact ⟨acc, wipeE env4 vs, B4, wipeG G4 vs, q4, w4.unwipe hw3 hl3, st4.wipeG, ⟨a4.at_, a4.nb, fun i hi => a4.ap i (wipeG_sub hi)⟩⟩
  · have e : i = ps.length := by omega
    subst e
    obtain ⟨vs5, h5, rp5⟩ := a'.at_
    exact .inl ⟨hst (Nat.le_refl _), k (.ol acc) env' (.ref l) [l] B' H' G' (done acc env' hI) w' ⟨⟨l, vs5, rfl, rfl, h5, rp5⟩, by simp, fun a ha => by rw [List.mem_singleton.mp ha]; exact a'.nb, fun a ha => by
      rw [List.mem_singleton.mp ha]
      exact .inr (s1.back hl), fun a ha j hj => by rw [List.mem_singleton.mp ha] at hj; exact a'.ap j hj⟩ (s1.trans s') .off⟩⟩
/-- the same where an item changes nothing -/
def dLcP (di : dI) (dg : dG) (dt : dT) (de : dE) (n : Nat) (vs : List Nat) : dO := fun env Q => di env fun ps env1 => lenE n env1 = true ∧ ∃ Inv : Nat → List P → Prop, Inv 0 [] ∧
  (∀ i p acc, ps[i]? = some p → Inv i acc → dg p (wipeE env1 vs) fun e2 => dt e2 fun b e3 => cnd b (de e3 fun y _ => acc.length < sizeLine ∧ Inv (i + 1) (acc ++ [y])) (Inv (i + 1) acc)) ∧
  ∀ acc, Inv ps.length acc → Q (.ol acc) env1
theorem snd_lcP {n : Nat} {vs : List Nat} (hi : SndI m K wi dw) (hg : SndG (others n vs) K g dg) (ht : SndT true K tt dt) (he : SndE true K te de) : SndO m K (tLc wi g tt te vs) (dLcP dw dg dt de n vs) := ⟨fun {B H σ env G QD Q} w q k => by
  refine hi.run w q fun ps env1 B1 H1 G1 J q1 w1 s1 u1 hJ => ?_
  obtain ⟨hn, Inv, i0, turn, done⟩ := q1
  have hσ : σ.length ≤ n := by rw [← w1.len]; exact lenE_le hn
  intro l hl
  let Wx : Nat → Hp → Prop := fun i H' => ∃ acc B', Inv i acc ∧ Gr B1 H1 B' H' ∧ Acc K B' H' G1 l acc
  have g0 : Gr B1 H1 B1 (upd H1 l (.lst [])) := ⟨Ex.refl _, fun a u k => by rw [upd_ne (ne_of_none k hl)]; exact k, fun a u k => by rw [upd_ne (ne_of_none (w1.ex a u k) hl)]; exact w1.ex a u k, fun a u k n => n⟩
  refine ⟨fun i mm H' => mm = ps.length - i ∧ i ≤ ps.length ∧ Wx i H', ⟨_, rfl, Nat.zero_le _, [], B1, i0, g0, ⟨⟨[], upd_same, rfl⟩, w1.ex.back hl, fun i hi => w1.off hl i hi⟩⟩, ?_⟩
  rintro i mm H' ⟨rfl, hle, acc, B', hI, g', a'⟩
  obtain ⟨hgo, hst⟩ := hJ B' H' i g'.b g'.w hle
  by_cases hlt : i < ps.length
  · obtain ⟨go, yl⟩ := hgo ps[i] (List.getElem?_eq_getElem hlt)
    refine .inr ⟨go, Wx (i + 1), fun H2 h2 => ⟨ps.length - (i + 1), by omega, rfl, hlt, h2⟩, fun x H2 y => ?_⟩
    obtain ⟨B2, g2, r2⟩ := yl x H2 y
    have w2 := ((w1.gr g').gr g2).wipe vs
    have a2 := a'.stp (G' := G1) (g2.stp (G := G1))
    refine hg.run w2 r2 (turn i ps[i] acc (List.getElem?_eq_getElem hlt) hI) fun env3 σ3 G3 q3 w3 g3 p3 => ?_
    refine ⟨wipe_pin p3 hσ, ?_⟩
    have ap3 : ∀ i, l ∉ G3 i := fun i hi => by
      obtain ⟨j, hj⟩ := g3 i l hi
      exact a2.ap j (wipeG_sub hj)
    refine ht.run w3 q3 fun bb env4 B4 H4 G4 q4 w4 s4 u4 => ?_
    obtain ⟨_, rfl, g4⟩ := u4 rfl
    have a4 : Acc K B4 H4 G1 l acc := by
      obtain ⟨z1, z2, z3⟩ := (show Acc K _ _ _ l acc from ⟨a2.at_, a2.nb, ap3⟩).stp s4
      exact ⟨z1, z2, a2.ap⟩
    cases bb with
    | true =>
      replace q4 := q4.1 rfl
      rw [if_pos rfl]
      refine he.run w4 q4 fun p5 env5 v5 B5 H5 G5 q5 w5 r5 s5 u5 => ?_
      obtain ⟨_, rfl, g5⟩ := u5 rfl
      have gg := ((g'.trans g2).trans g4).trans g5
      have a5 : Acc K B5 H5 G1 l acc := a4.stp (g5.stp (G := G1))
      obtain ⟨vs5, h5, rp5⟩ := a5.at_
      refine ⟨vs5, h5, by rw [rp5.length]; exact q5.1, acc ++ [p5], B5, q5.2, ?_, ⟨⟨_, upd_same, rp5.append (RpA.one r5)⟩, a5.nb, a5.ap⟩⟩
      exact ⟨gg.b, fun a o h => by rw [upd_ne (ne_of_none h hl)]; exact gg.h a o h, fun a o h => by rw [upd_ne (ne_of_none h a5.nb)]; exact gg.w a o h, gg.n⟩
    | false =>
      replace q4 := q4.2 rfl
      rw [if_neg Bool.false_ne_true]
      exact ⟨acc, B4, q4, (g'.trans g2).trans g4, a4⟩
  · have e : i = ps.length := by omega
    subst e
    obtain ⟨vs5, h5, rp5⟩ := a'.at_
    exact .inl ⟨hst (Nat.le_refl _), k (.ol acc) env1 (.ref l) [l] B' H' G1 (done acc hI) (w1.gr g') ⟨⟨l, vs5, rfl, rfl, h5, rp5⟩, by simp, fun a ha => by rw [List.mem_singleton.mp ha]; exact a'.nb, fun a ha => by
      rw [List.mem_singleton.mp ha]
      exact .inr (s1.back hl), fun a ha j hj => by rw [List.mem_singleton.mp ha] at hj; exact a'.ap j hj⟩ (s1.trans g'.stp) (u1.trans (.gr g'))⟩⟩
end
end DL
set_option Elab.async false
set_option linter.all false
set_option maxRecDepth 100000
namespace DL
open PySem PySem.Spec L2
/-! ### what a def promises, over data -/
theorem Stp.cut {B H B' H' : Hp} {G G' G2 : Fp} (s : Stp B H G B' H' G') (h : ∀ i a, a ∈ G2 i → a ∈ G' i) : Stp B H G B' H' G2 := ⟨s.ex, s.kp, fun i a k => s.fp i a (h i a k), s.bs, s.th⟩
abbrev FSp := List D → (D → List D → Prop) → Prop
def spD (K : PySem.W.Frag) (fs : FSp) : Sp := fun vs H Q _ => ∃ B ds G QD, Wd K B H (vs.map some) (ds.map some) G ∧ fs ds QD ∧
  ∀ d ds' v F B' H' G', QD d ds' → Wd K B' H' (vs.map some) (ds'.map some) G' → Own K H G B' H' G' d v F → Stp B H G B' H' G' → Q v H'
/-- the arguments' data -/
def argD (env : Env) : AR → D
  | .inl p => .sh p
  | .inr i => match env[i]? with
    | some (some d) => d
    | _ => .sh .non
theorem argD_at {env : Env} {i : Nat} {d : D} (h : env[i]? = some (some d)) : argD env (.inr i) = d := by
  show (match env[i]? with | some (some d) => d | _ => D.sh .non) = d
  rw [h]
def slots : List AR → List Nat
  | [] => []
  | .inl _ :: as => slots as
  | .inr i :: as => i :: slots as
def has (env : Env) (i : Nat) : Bool := match env[i]? with
  | some (some _) => true
  | _ => false
def argsOk (as : List AR) (env : Env) : Bool := decide (slots as).Nodup && (slots as).all (has env)
def updS (env : Env) : List AR → List D → Env
  | .inl _ :: as, _ :: ds => updS env as ds
  | .inr i :: as, d :: ds => updS (env.set i (some d)) as ds
  | _, _ => env
theorem mem_slots {i : Nat} : ∀ {as : List AR}, i ∈ slots as ↔ ∃ j : Nat, as[j]? = some (Sum.inr i)
  | [] => by simp [slots]
  | .inl p :: as => by
    rw [show slots (.inl p :: as) = slots as from rfl, mem_slots]
    constructor
    · rintro ⟨j, h⟩; exact ⟨j + 1, h⟩
    · rintro ⟨j, h⟩
      cases j with
      | zero => cases h
      | succ j => exact ⟨j, h⟩
  | .inr k :: as => by
    rw [show slots (.inr k :: as) = k :: slots as from rfl, List.mem_cons, mem_slots]
    constructor
    · rintro (rfl | ⟨j, h⟩)
      · exact ⟨0, rfl⟩
      · exact ⟨j + 1, h⟩
    · rintro ⟨j, h⟩
      cases j with
      | zero => cases h; exact .inl rfl
      | succ j => exact .inr ⟨j, h⟩
theorem slots_inj {i j k : Nat} : ∀ {as : List AR}, (slots as).Nodup → as[j]? = some (.inr i) → as[k]? = some (.inr i) → j = k
  | [], _, h, _ => by simp at h
  | .inl p :: as, nd, h1, h2 => by
    cases j with
    | zero => cases h1
    | succ j =>
      cases k with
      | zero => cases h2
      | succ k => rw [slots_inj (as := as) nd h1 h2]
  | .inr q :: as, nd, h1, h2 => by
    have nd' := List.nodup_cons.mp nd
    cases j with
    | zero =>
      cases h1
      cases k with
      | zero => rfl
      | succ k => exact absurd (mem_slots.mpr ⟨k, h2⟩) nd'.1
    | succ j =>
      cases k with
      | zero => cases h2; exact absurd (mem_slots.mpr ⟨j, h1⟩) nd'.1
      | succ k => rw [slots_inj (as := as) nd'.2 h1 h2]
theorem updS_len : ∀ {as : List AR} {ds : List D} {env : Env}, (updS env as ds).length = env.length
  | [], _, _ => rfl
  | .inl _ :: _, [], _ => rfl
  | .inr _ :: _, [], _ => rfl
  | .inl _ :: as, _ :: ds, env => updS_len (as := as)
  | .inr i :: as, d :: ds, env => by
    show (updS (env.set i (some d)) as ds).length = _
    rw [updS_len, List.length_set]
theorem updS_out {i : Nat} : ∀ {as : List AR} {ds : List D} {env : Env}, i ∉ slots as → (updS env as ds)[i]? = env[i]?
  | [], _, _, _ => rfl
  | .inl _ :: _, [], _, _ => rfl
  | .inr _ :: _, [], _, _ => rfl
  | .inl _ :: as, _ :: ds, env, h => updS_out (as := as) h
  | .inr j :: as, d :: ds, env, h => by
    have h' : i ≠ j ∧ i ∉ slots as := ⟨fun q => h (by rw [q]; exact List.mem_cons_self), fun q => h (List.mem_cons_of_mem _ q)⟩
    show (updS (env.set j (some d)) as ds)[i]? = _
    rw [updS_out h'.2, List.getElem?_set_ne fun e => h'.1 e.symm]
theorem updS_in {i : Nat} : ∀ {as : List AR} {ds : List D} {env : Env} {j : Nat}, (slots as).Nodup → ds.length = as.length → i < env.length → as[j]? = some (.inr i) → (updS env as ds)[i]? = ds[j]?.map some
  | [], _, _, _, _, _, _, h => by simp at h
  | .inl _ :: _, [], _, _, _, h, _, _ => by simp at h
  | .inr _ :: _, [], _, _, _, h, _, _ => by simp at h
  | .inl _ :: as, _ :: ds, env, j, nd, hl, hi, h => by
    cases j with
    | zero => cases h
    | succ j => exact updS_in (as := as) (ds := ds) nd (by simpa using hl) hi h
  | .inr q :: as, d :: ds, env, j, nd, hl, hi, h => by
    have nd' := List.nodup_cons.mp nd
    show (updS (env.set q (some d)) as ds)[i]? = _
    cases j with
    | zero =>
      cases h
      rw [updS_out nd'.1, List.getElem?_set_self hi]
      rfl
    | succ j => exact updS_in (as := as) (ds := ds) nd'.2 (by simpa using hl) (by rw [List.length_set]; exact hi) h
theorem RpX.len {K : PySem.W.Frag} {B : Hp} {σ : L2.St} : ∀ {as : List AR} {vs : List V}, RpX K B σ as vs → vs.length = as.length
  | [], _, h => by rw [show _ = [] from h]; rfl
  | .inl p :: as, _, ⟨v, r, e1, _, e3⟩ => by rw [e1, List.length_cons, List.length_cons, RpX.len e3]
  | .inr i :: as, _, ⟨v, r, e1, _, e3⟩ => by rw [e1, List.length_cons, List.length_cons, RpX.len e3]
theorem RpX.inl {K : PySem.W.Frag} {B : Hp} {σ : L2.St} {p : P} : ∀ {as : List AR} {vs : List V} {j : Nat}, RpX K B σ as vs → as[j]? = some (.inl p) → ∃ v, vs[j]? = some v ∧ Rp K B p v
  | [], _, _, _, h => by simp at h
  | .inl q :: as, _, j, ⟨v, r, e1, e2, e3⟩, h => by
    cases j with
    | zero => cases h; exact ⟨v, by rw [e1]; rfl, e2⟩
    | succ j => obtain ⟨u, h1, h2⟩ := RpX.inl e3 h; exact ⟨u, by rw [e1]; exact h1, h2⟩
  | .inr q :: as, _, j, ⟨v, r, e1, e2, e3⟩, h => by
    cases j with
    | zero => cases h
    | succ j => obtain ⟨u, h1, h2⟩ := RpX.inl e3 h; exact ⟨u, by rw [e1]; exact h1, h2⟩
theorem RpX.inr {K : PySem.W.Frag} {B : Hp} {σ : L2.St} {i : Nat} : ∀ {as : List AR} {vs : List V} {j : Nat}, RpX K B σ as vs → as[j]? = some (.inr i) → ∃ v, vs[j]? = some v ∧ σ[i]? = some (some v)
  | [], _, _, _, h => by simp at h
  | .inl q :: as, _, j, ⟨v, r, e1, e2, e3⟩, h => by
    cases j with
    | zero => cases h
    | succ j => obtain ⟨u, h1, h2⟩ := RpX.inr e3 h; exact ⟨u, by rw [e1]; exact h1, h2⟩
  | .inr q :: as, _, j, ⟨v, r, e1, e2, e3⟩, h => by
    cases j with
    | zero => cases h; exact ⟨v, by rw [e1]; rfl, e2⟩
    | succ j => obtain ⟨u, h1, h2⟩ := RpX.inr e3 h; exact ⟨u, by rw [e1]; exact h1, h2⟩
def argG (as : List AR) (G : Fp) : Fp := fun j => match as[j]? with
  | some (.inr i) => G i
  | _ => []
theorem argG_in {as : List AR} {G : Fp} {j : Nat} {a : Addr} (h : a ∈ argG as G j) : ∃ i, as[j]? = some (.inr i) ∧ a ∈ G i := by
  unfold argG at h
  split at h
  · rename_i i hi; exact ⟨i, hi, h⟩
  · cases h
theorem has_some {env : Env} {i : Nat} (h : has env i = true) : ∃ d, env[i]? = some (some d) := by
  unfold has at h
  split at h
  · rename_i d hd; exact ⟨d, hd⟩
  · cases h
/-- the callee's world -/
theorem Wd.args {K : PySem.W.Frag} {B H : Hp} {σ : L2.St} {env : Env} {G : Fp} {as : List AR} {vs : List V} (w : Wd K B H σ env G) (r : RpX K B σ as vs) (ok : argsOk as env = true) :
    Wd K B H (vs.map some) ((as.map (argD env)).map some) (argG as G) := by
  unfold argsOk at ok
  rw [Bool.and_eq_true] at ok
  have nd := of_decide_eq_true ok.1
  have hh : ∀ i ∈ slots as, ∃ d, env[i]? = some (some d) := fun i hi => has_some (List.all_eq_true.mp ok.2 i hi)
  refine ⟨w.ex, fun j d e => ?_, fun j hn => ?_, fun j => ?_, fun j k a ha hb => ?_, fun j a ha => ?_, by rw [List.length_map, List.length_map, List.length_map, r.len]⟩
  · rw [List.getElem?_map, List.getElem?_map] at e
    cases ha : as[j]? with
    | none => rw [ha] at e; cases e
    | some x =>
      rw [ha] at e
      cases x with
      | inl p =>
        have e' : D.sh p = d := Option.some.inj (Option.some.inj e)
        subst e'
        obtain ⟨v, h1, h2⟩ := r.inl ha
        exact ⟨v, by rw [List.getElem?_map, h1]; rfl, by unfold argG; rw [ha], h2⟩
      | inr i =>
        obtain ⟨d0, h0⟩ := hh i (mem_slots.mpr ⟨j, ha⟩)
        have e' : argD env (.inr i) = d := Option.some.inj (Option.some.inj e)
        have e'' : d0 = d := by rw [argD_at h0] at e'; exact e'
        subst e''
        obtain ⟨v, h1, h2⟩ := r.inr ha
        obtain ⟨v', g1, g2⟩ := w.sl i _ h0
        rw [h2] at g1
        cases g1
        exact ⟨v, by rw [List.getElem?_map, h1]; rfl, by unfold argG; rw [ha]; exact g2⟩
  · unfold argG
    split
    · rename_i i hi
      exfalso
      refine hn (argD env (.inr i)) ?_
      rw [List.getElem?_map, List.getElem?_map, hi]
      rfl
    · rfl
  · unfold argG
    split
    · exact w.nd _
    · exact List.nodup_nil
  · obtain ⟨i, h1, h2⟩ := argG_in ha
    obtain ⟨i', h3, h4⟩ := argG_in hb
    have := w.dj i i' a h2 h4
    subst this
    exact slots_inj nd h1 h3
  · obtain ⟨i, h1, h2⟩ := argG_in ha
    exact w.nb i a h2
/-- the caller's own objects behind the call -/
def backG (as : List AR) (G G' : Fp) : Fp := fun i => match as.findIdx? (fun x => match x with | .inr j => j == i | _ => false) with
  | some j => G' j
  | none => G i
theorem find_slot {as : List AR} {i : Nat} : (∃ j, as.findIdx? (fun x => match x with | .inr j => j == i | _ => false) = some j ∧ as[j]? = some (.inr i)) ∨ (as.findIdx? (fun x => match x with | .inr j => j == i | _ => false) = none ∧ i ∉ slots as) := by
  cases h : as.findIdx? (fun x => match x with | .inr j => j == i | _ => false) with
  | some j =>
    left
    refine ⟨j, rfl, ?_⟩
    obtain ⟨hlt, hx, _⟩ := List.findIdx?_eq_some_iff_getElem.mp h
    rw [List.getElem?_eq_getElem hlt]
    cases e : as[j] with
    | inl p => rw [e] at hx; cases hx
    | inr q => rw [e] at hx; rw [beq_iff_eq.mp hx]
  | none =>
    right
    refine ⟨rfl, fun hm => ?_⟩
    obtain ⟨j, hj⟩ := mem_slots.mp hm
    have := List.findIdx?_eq_none_iff.mp h (.inr i) (List.mem_of_getElem? hj)
    simp at this
theorem Wd.after {K : PySem.W.Frag} {B H B' H' : Hp} {σ : L2.St} {env : Env} {G G' : Fp} {as : List AR} {vs : List V} {ds : List D} (w : Wd K B H σ env G) (r : RpX K B σ as vs) (ok : argsOk as env = true)
    (w' : Wd K B' H' (vs.map some) (ds.map some) G') (s : Stp B H (argG as G) B' H' G') :
    Wd K B' H' σ (updS env as ds) (backG as G G') ∧ Stp B H G B' H' (backG as G G') ∧ (∀ a i, a ∈ backG as G G' i → (∃ j, a ∈ G' j) ∨ (a ∈ G i ∧ i ∉ slots as)) := by
  unfold argsOk at ok
  rw [Bool.and_eq_true] at ok
  have nd := of_decide_eq_true ok.1
  have hh : ∀ i ∈ slots as, ∃ d, env[i]? = some (some d) := fun i hi => has_some (List.all_eq_true.mp ok.2 i hi)
  have hl : ds.length = as.length := by
    have := w'.len
    rw [List.length_map, List.length_map, r.len] at this
    exact this
  have keep : ∀ i a, a ∈ G i → i ∉ slots as → (∀ j, a ∉ argG as G j) := fun i a ha hn j hj => by
    obtain ⟨i', h1, h2⟩ := argG_in hj
    have := w.dj i i' a ha h2
    subst this
    exact hn (mem_slots.mpr ⟨j, h1⟩)
  have there : ∀ i a, a ∈ G i → ∃ o, H a = some o := fun i a ha => by
    by_cases hx : ∃ d, env[i]? = some (some d)
    · obtain ⟨d, hd⟩ := hx
      obtain ⟨v', h1, h2⟩ := w.sl i d hd
      exact RpD.there h2 a ha
    · rw [w.no i fun d e => hx ⟨d, e⟩] at ha; cases ha
  have mem : ∀ a i, a ∈ backG as G G' i → (∃ j, as[j]? = some (.inr i) ∧ a ∈ G' j) ∨ (a ∈ G i ∧ i ∉ slots as) := fun a i ha => by
    unfold backG at ha
    rcases find_slot (as := as) (i := i) with ⟨j, h1, h2⟩ | ⟨h1, h2⟩
    · rw [h1] at ha; exact .inl ⟨j, h2, ha⟩
    · rw [h1] at ha; exact .inr ⟨ha, h2⟩
  refine ⟨⟨w'.ex, fun i d e => ?_, fun i hn => ?_, fun i => ?_, fun i j a ha hb => ?_, fun i a ha => ?_, by rw [updS_len]; exact w.len⟩, ⟨s.ex, fun a o h n => s.kp a o h fun j hj => ?_, fun i a ha => ?_, fun a o h hb n => s.bs a o h hb fun j hj => ?_, s.th⟩, fun a i ha => (mem a i ha).imp (fun ⟨j, _, h⟩ => ⟨j, h⟩) id⟩
  · rcases find_slot (as := as) (i := i) with ⟨j, h1, h2⟩ | ⟨h1, h2⟩
    · obtain ⟨d0, h0⟩ := hh i (mem_slots.mpr ⟨j, h2⟩)
      rw [updS_in nd hl (env_lt h0) h2] at e
      obtain ⟨v, g1, g2⟩ := w'.sl j d (by rw [List.getElem?_map]; exact e)
      obtain ⟨v', k1, k2⟩ := r.inr h2
      rw [List.getElem?_map, k1] at g1
      cases g1
      refine ⟨_, k2, ?_⟩
      unfold backG
      rw [h1]
      exact g2
    · rw [updS_out h2] at e
      obtain ⟨v, g1, g2⟩ := w.sl i d e
      refine ⟨v, g1, ?_⟩
      unfold backG
      rw [h1]
      exact RpD.mono s.ex g2 fun a ha o ho => s.kp a o ho (keep i a ha h2)
  · rcases find_slot (as := as) (i := i) with ⟨j, h1, h2⟩ | ⟨h1, h2⟩
    · obtain ⟨d0, h0⟩ := hh i (mem_slots.mpr ⟨j, h2⟩)
      exfalso
      have hj : j < ds.length := by rw [hl]; exact (List.getElem?_eq_some_iff.mp h2).1
      refine hn ds[j] ?_
      rw [updS_in nd hl (env_lt h0) h2, List.getElem?_eq_getElem hj]
      rfl
    · unfold backG
      rw [h1]
      refine w.no i fun d e => hn d ?_
      rw [updS_out h2]; exact e
  · unfold backG
    split
    · exact w'.nd _
    · exact w.nd _
  · rcases mem a i ha with ⟨k, k1, k2⟩ | ⟨k1, k2⟩
    · rcases mem a j hb with ⟨l, l1, l2⟩ | ⟨l1, l2⟩
      · have := w'.dj k l a k2 l2
        subst this
        rw [k1] at l1
        cases l1
        rfl
      · rcases s.fp k a k2 with ⟨q, hq⟩ | hq
        · exact absurd hq (keep j a l1 l2 q)
        · obtain ⟨o, ho⟩ := there j a l1
          rw [ho] at hq; cases hq
    · rcases mem a j hb with ⟨l, l1, l2⟩ | ⟨l1, l2⟩
      · rcases s.fp l a l2 with ⟨q, hq⟩ | hq
        · exact absurd hq (keep i a k1 k2 q)
        · obtain ⟨o, ho⟩ := there i a k1
          rw [ho] at hq; cases hq
      · exact w.dj i j a k1 l1
  · rcases mem a i ha with ⟨k, k1, k2⟩ | ⟨k1, k2⟩
    · exact w'.nb k a k2
    · obtain ⟨o, ho⟩ := there i a k1
      exact s.bs a o ho (w.nb i a k1) (keep i a k1 k2)
  · obtain ⟨i, h1, h2⟩ := argG_in hj
    exact n i h2
  · rcases mem a i ha with ⟨k, k1, k2⟩ | ⟨k1, k2⟩
    · rcases s.fp k a k2 with ⟨q, hq⟩ | hq
      · obtain ⟨i', h1, h2⟩ := argG_in hq
        exact .inl ⟨i', h2⟩
      · exact .inr hq
    · exact .inl ⟨i, k1⟩
  · obtain ⟨i, h1, h2⟩ := argG_in hj
    exact n i h2
section
variable {pn : List Nat} {m : Bool} {K : PySem.W.Frag} {ta : TA} {da : dA} {X : Cx} {e a : Expr} {es : List Expr}
def dCall (fs : FSp) (da : dA) : dO := fun env Q => da env fun as e => argsOk as e = true ∧ fs (as.map (argD e)) fun d ds => Q d (updS e as ds)
theorem snd_call {fs : FSp} {E : XK} (h : SndA m K ta da) : SndO false K (tCall (spD K fs) [] E ta) (dCall fs da) := ⟨fun {B H σ env G QD Q} w q k => by
  refine h.run w q fun as e vs B1 H1 G1 q1 w1 r1 s1 _ => ?_
  obtain ⟨ok, q1⟩ := q1
  show spD K fs (vs ++ []) H1 Q E
  rw [List.append_nil]
  refine ⟨B1, _, _, _, w1.args r1 ok, q1, fun d ds v F B2 H2 G2 q2 w2 o2 s2 => ?_⟩
  obtain ⟨w3, s3, m3⟩ := w1.after r1 ok w2 s2
  refine k d _ v F B2 H2 _ q2 w3 ⟨o2.rp, o2.nd, o2.nb, fun x hx => ?_, fun x hx i hi => ?_⟩ (s1.trans s3) .off
  · rcases o2.nw x hx with ⟨j, hj⟩ | hn
    · obtain ⟨i, _, h2⟩ := argG_in hj
      exact s1.fp i x h2
    · exact .inr (s1.back hn)
  · rcases m3 x i hi with ⟨j, hj⟩ | ⟨h1, h2⟩
    · exact o2.ap x hx j hj
    · rcases o2.nw x hx with ⟨j, hj⟩ | hn
      · obtain ⟨i', g1, g2⟩ := argG_in hj
        have := w1.dj i i' x h1 g2
        subst this
        exact h2 (mem_slots.mpr ⟨j, g1⟩)
      · exact w1.off hn i h1⟩
/-- a call that changes none of its arguments -/
def dCallP (fs : FSp) (da : dA) : dO := fun env Q => da env fun as e => slots as = [] ∧ fs (as.map (argD e)) fun d _ => Q d e
theorem prs_of : ∀ {as : List AR}, slots as = [] → ∃ ps, prs as = some ps
  | [], _ => ⟨[], rfl⟩
  | .inl p :: as, h => by
    obtain ⟨ps, e⟩ := prs_of (as := as) h
    exact ⟨p :: ps, by unfold prs; rw [e]; rfl⟩
  | .inr _ :: _, h => by cases h
theorem snd_callP {fs : FSp} {E : XK} (h : SndA m K ta da) : SndO m K (tCall (spD K fs) [] E ta) (dCallP fs da) := ⟨fun {B H σ env G QD Q} w q k => by
  refine h.run w q fun as e vs B1 H1 G1 q1 w1 r1 s1 u1 => ?_
  obtain ⟨hs, q1⟩ := q1
  have ok : argsOk as e = true := by unfold argsOk; rw [hs]; rfl
  show spD K fs (vs ++ []) H1 Q E
  rw [List.append_nil]
  have gz : ∀ j x, x ∉ argG as G1 j := fun j x hx => by
    obtain ⟨i, h1, _⟩ := argG_in hx
    have := mem_slots.mpr ⟨j, h1⟩
    rw [hs] at this; cases this
  refine ⟨B1, _, _, _, w1.args r1 ok, q1, fun d ds v F B2 H2 G2 q2 w2 o2 s2 => ?_⟩
  have g : Gr B1 H1 B2 H2 := ⟨s2.ex, fun x o hx => s2.kp x o hx fun j => gz j x, w2.ex, fun x o hx hn => s2.bs x o hx hn fun j => gz j x⟩
  refine k d _ v F B2 H2 G1 q2 (w1.gr g) ⟨o2.rp, o2.nd, o2.nb, fun x hx => ?_, fun x hx i hi => ?_⟩ (s1.trans g.stp) (u1.trans (.gr g))
  · rcases o2.nw x hx with ⟨j, hj⟩ | hn
    · exact absurd hj (gz j x)
    · exact .inr (s1.back hn)
  · rcases o2.nw x hx with ⟨j, hj⟩ | hn
    · exact absurd hj (gz j x)
    · exact w1.off hn i hi⟩
theorem do_call {fs : FSp} {E : XK} {e0 : Expr} (h : PA X (e0 :: es) ta → PE X a (tCall (spD X.K fs) [] E ta)) (ha : DA m X (e0 :: es) ta da) : DO false X a (tCall (spD X.K fs) [] E ta) (dCall fs da) := ⟨h ha.pe, snd_call ha.sd⟩
theorem do_callP {fs : FSp} {E : XK} {e0 : Expr} (h : PA X (e0 :: es) ta → PE X a (tCall (spD X.K fs) [] E ta)) (ha : DA m X (e0 :: es) ta da) : DO m X a (tCall (spD X.K fs) [] E ta) (dCallP fs da) := ⟨h ha.pe, snd_callP ha.sd⟩
end
/-! ### a def -/
def back (pn : List Nat) (env : Env) : Nat → List D → List D
  | _, [] => []
  | i, d :: ds => (if pn.contains i then argD env (.inr i) else d) :: back pn env (i + 1) ds
def startE (N : List Str) (ds : List D) : Env := ds.map some ++ List.replicate (N.length - ds.length) none
def isSh : D → Bool
  | .sh _ => true
  | _ => false
/-- the parameters that are not lent are plain -/
def lentOk (pn : List Nat) : Nat → List D → Bool
  | _, [] => true
  | i, d :: ds => (pn.contains i || isSh d) && lentOk pn (i + 1) ds
theorem back_get {pn : List Nat} {env : Env} : ∀ {ds : List D} {i j : Nat}, (back pn env i ds)[j]? = ds[j]?.map fun d => if pn.contains (i + j) then argD env (.inr (i + j)) else d
  | [], _, _ => by simp [back]
  | d :: ds, i, 0 => by rfl
  | d :: ds, i, j + 1 => by
    show (back pn env (i + 1) ds)[j]? = _
    rw [back_get, show i + 1 + j = i + (j + 1) by omega]
    rfl
theorem back_len {pn : List Nat} {env : Env} : ∀ {ds : List D} {i : Nat}, (back pn env i ds).length = ds.length
  | [], _ => rfl
  | d :: ds, i => by show (back pn env (i + 1) ds).length + 1 = _; rw [back_len]; rfl
theorem lent_at {pn : List Nat} : ∀ {ds : List D} {i j : Nat} {d : D}, lentOk pn i ds = true → ds[j]? = some d → pn.contains (i + j) = true ∨ isSh d = true
  | [], _, _, _, _, h => by simp at h
  | d :: ds, i, 0, d', h, e => by
    cases Option.some.inj e
    have h' : (pn.contains i || isSh d) = true ∧ lentOk pn (i + 1) ds = true := by rw [← Bool.and_eq_true]; exact h
    rw [Bool.or_eq_true] at h'
    exact h'.1
  | d :: ds, i, j + 1, d', h, e => by
    have h' : (pn.contains i || isSh d) = true ∧ lentOk pn (i + 1) ds = true := by rw [← Bool.and_eq_true]; exact h
    have := lent_at (i := i + 1) (j := j) h'.2 e
    rw [show i + 1 + j = i + (j + 1) by omega] at this
    exact this
theorem startE_get {N : List Str} {ds : List D} {i : Nat} {d : D} (h : (startE N ds)[i]? = some (some d)) : ds[i]? = some d := by
  unfold startE at h
  by_cases hi : i < ds.length
  · rw [List.getElem?_append_left (by simpa using hi), List.getElem?_map] at h
    cases e : ds[i]? with
    | none => rw [e] at h; cases h
    | some x => rw [e] at h; cases h; rfl
  · rw [List.getElem?_append_right (by simpa using hi), List.getElem?_replicate] at h
    split at h <;> cases h
theorem Wd.start {K : PySem.W.Frag} {B H : Hp} {vs : List V} {ds : List D} {G : Fp} {N : List Str} (w : Wd K B H (vs.map some) (ds.map some) G) : Wd K B H (L2.start N vs) (startE N ds) G := by
  have hl : ds.length = vs.length := by have := w.len; rw [List.length_map, List.length_map] at this; exact this
  refine ⟨w.ex, fun i d e => ?_, fun i hn => ?_, w.nd, w.dj, w.nb, ?_⟩
  · have e' := startE_get e
    obtain ⟨v, h1, h2⟩ := w.sl i d (by rw [List.getElem?_map, e']; rfl)
    refine ⟨v, ?_, h2⟩
    unfold L2.start
    rw [List.getElem?_append_left (by rw [List.length_map, ← hl]; exact (List.getElem?_eq_some_iff.mp e').1)]
    exact h1
  · refine w.no i fun d e => hn d ?_
    unfold startE
    rw [List.getElem?_append_left (env_lt e)]
    exact e
  · unfold startE L2.start
    rw [List.length_append, List.length_append, List.length_map, List.length_map, List.length_replicate, List.length_replicate, hl]
theorem Wd.back {K : PySem.W.Frag} {B H B' H' : Hp} {vs : List V} {ds : List D} {G G' : Fp} {N : List Str} {pn : List Nat} {env' : Env} {σ' : L2.St} (w : Wd K B H (vs.map some) (ds.map some) G) (hb : Ex B B')
    (w' : Wd K B' H' σ' env' G') (p : Pin pn (L2.start N vs) σ') (hl : lentOk pn 0 ds = true) (hp : pn.all (has env') = true) :
    Wd K B' H' (vs.map some) ((DL.back pn env' 0 ds).map some) (fun i => if pn.contains i ∧ i < ds.length then G' i else []) := by
  have hlen : ds.length = vs.length := by have := w.len; rw [List.length_map, List.length_map] at this; exact this
  refine ⟨w'.ex, fun i d e => ?_, fun i hn => ?_, fun i => ?_, fun i j a ha hb => ?_, fun i a ha => ?_, by rw [List.length_map, List.length_map, back_len, hlen]⟩
  · rw [List.getElem?_map, back_get] at e
    cases hd : ds[i]? with
    | none => rw [hd] at e; cases e
    | some d0 =>
      rw [hd] at e
      have e' : (if pn.contains (0 + i) then argD env' (.inr (0 + i)) else d0) = d := Option.some.inj (Option.some.inj e)
      rw [Nat.zero_add] at e'
      have hi : i < ds.length := (List.getElem?_eq_some_iff.mp hd).1
      obtain ⟨v, h1, h2⟩ := w.sl i d0 (by rw [List.getElem?_map, hd]; rfl)
      refine ⟨v, h1, ?_⟩
      by_cases hc : pn.contains i = true
      · rw [if_pos hc] at e'
        rw [if_pos ⟨hc, hi⟩]
        have hm : i ∈ pn := by simpa using hc
        obtain ⟨d1, hd1⟩ := has_some (List.all_eq_true.mp hp i hm)
        have e'' : d1 = d := by rw [argD_at hd1] at e'; exact e'
        subst e''
        obtain ⟨v', g1, g2⟩ := w'.sl i _ hd1
        rw [p.2 i hm] at g1
        unfold L2.start at g1
        rw [List.getElem?_append_left (by rw [List.length_map, ← hlen]; exact hi), h1] at g1
        cases g1
        exact g2
      · rw [if_neg hc] at e'
        rw [if_neg fun q => hc q.1]
        subst e'
        rcases lent_at (i := 0) (j := i) hl hd with h | h
        · rw [Nat.zero_add] at h; exact absurd h hc
        · cases d0 with
          | sh p => exact ⟨rfl, Rp.mono hb p h2.2⟩
          | _ => cases h
  · show (if pn.contains i ∧ i < ds.length then G' i else []) = []
    split
    · rename_i hc
      exfalso
      refine hn (argD env' (.inr i)) ?_
      rw [List.getElem?_map, back_get, List.getElem?_eq_getElem hc.2, Nat.zero_add]
      show some (some (if pn.contains i then argD env' (.inr i) else ds[i])) = _
      rw [if_pos hc.1]
    · rfl
  · show (if pn.contains i ∧ i < ds.length then G' i else []).Nodup
    split
    · exact w'.nd i
    · exact List.nodup_nil
  · change a ∈ (if pn.contains i ∧ i < ds.length then G' i else []) at ha
    change a ∈ (if pn.contains j ∧ j < ds.length then G' j else []) at hb
    split at ha
    · split at hb
      · exact w'.dj i j a ha hb
      · cases hb
    · cases ha
  · change a ∈ (if pn.contains i ∧ i < ds.length then G' i else []) at ha
    split at ha
    · exact w'.nb i a ha
    · cases ha
section
variable {P' : Program} {w' : World} {K : PySem.W.Frag} {mg : Str → Option Value} {base : Heap}
/-- a def keeps its promise over data -/
theorem Fun.okD {x qual : Str} {st : Stmt} {f : Addr} {fd : FuncData} {N ps : List Str} {k : Nat} {fs : FSp} (pn : List Nat) (F : L2.Fun K x qual st f fd) (S : FnScope N ps (defScope st)) (len : ∀ ds QD, fs ds QD → ds.length = ps.length ∧ lentOk pn 0 ds = true)
    (hbody : ∀ (cdv : Value) (A : Around) (outer : List PySem.Env) (s : Shared) (H : Hp) (E : XK), Room k (A.deeper (PyProof.Rows.envOfC qual (defScope st) s.heap.objs.size f cdv)) →
      ∃ ts dS', DSs pn (cxOf CX0 P' w' K mg base N qual (defScope st) f cdv A outer s H E).nox (defBody st) ts dS' ∧ ∀ ds QD, fs ds QD →
        dS' { nx := fun env => pn.all (has env) = true ∧ QD (.sh .non) (back pn env 0 ds), rt := fun d env => pn.all (has env) = true ∧ QD d (back pn env 0 ds) } (startE N ds)) :
    FnOk P' w' K mg base CX0 (k + 1) f fd ps (spD K fs) := by
  refine F.ok S (fun vs H Q E h => ?_) (fun cdv A outer s H vs Q E hr h => ?_)
  · obtain ⟨B, ds, G, QD, w, h, _⟩ := h
    have := w.len
    rw [List.length_map, List.length_map] at this
    rw [← this]
    exact (len ds QD h).1
  · obtain ⟨B, ds, G, QD, w, h, q⟩ := h
    obtain ⟨ts, dS', hd, hr'⟩ := hbody cdv A outer s H E hr
    have hl := (len ds QD h).2
    refine ⟨ts, hd.pe, hd.sd.run (D := { nx := fun _ H' => Q .non H', rt := Q }) (w.start (N := N)) (hr' ds QD h) ?_ ?_ (fun _ _ _ _ _ h => h.elim) (fun _ _ _ _ _ h => h.elim)⟩
    · intro env' σ' B' H' G' hq wq sq pq
      have wb := w.back sq.ex wq pq hl hq.1
      exact q _ _ .non [] B' H' _ hq.2 wb ⟨⟨rfl, rfl⟩, List.nodup_nil, fun _ h => absurd h List.not_mem_nil, fun _ h => absurd h List.not_mem_nil, fun _ h => absurd h List.not_mem_nil⟩
        (sq.cut fun i a ha => by
          change a ∈ (if pn.contains i ∧ i < ds.length then G' i else []) at ha
          split at ha
          · exact ha
          · cases ha)
    · intro d env' σ' v F B' H' G' hq wq oq sq pq
      have wb := w.back sq.ex wq pq hl hq.1
      refine q _ _ v F B' H' _ hq.2 wb ⟨oq.rp, oq.nd, oq.nb, oq.nw, fun a ha i hi => ?_⟩ (sq.cut fun i a ha => ?_)
      · change a ∈ (if pn.contains i ∧ i < ds.length then G' i else []) at hi
        split at hi
        · exact oq.ap a ha i hi
        · cases hi
      · change a ∈ (if pn.contains i ∧ i < ds.length then G' i else []) at ha
        split at ha
        · exact ha
        · cases ha
end
end DL
set_option Elab.async false
set_option linter.all false
set_option maxRecDepth 100000
namespace DL
open PySem PySem.Spec L2
section
variable {K : PySem.W.Frag}
/-! ### intsP -/
def dII (f : Int → Int → P) : P → P → (P → Prop) → Prop
  | .int i, .int j, Q => Q (f i j)
  | _, _, _ => False
def dIC (C : Int → Int → Prop) (f : Int → Int → P) : P → P → (P → Prop) → Prop
  | .int i, .int j, Q => C i j ∧ Q (f i j)
  | _, _, _ => False
/-- a value that is no object -/
def VP : V → P → Prop
  | .int i, .int j => i = j
  | .bl a, .bl b => a = b
  | .str a, .str b => a = b
  | .non, .non => True
  | _, _ => False
theorem VP.rp {v : V} {p : P} (h : VP v p) (B : Hp) : Rp K B p v := by
  cases v <;> cases p <;> first | exact h.elim | (cases h; rfl)
theorem os_I0 {g : Int → Int → V} {f : Int → Int → P} (h : ∀ i j, VP (g i j) (f i j)) : OpS K (rI0 g) (dII f) := ⟨fun {B H x y p q QD Q} e rx ry r k => by
  cases p with
  | int i =>
    cases q with
    | int j => exact ⟨i, j, rx, ry, k _ B H _ r ((h i j).rp B) (.refl e)⟩
    | _ => exact r.elim
  | _ => exact r.elim⟩
theorem os_I {C : Int → Int → Prop} {g : Int → Int → V} {f : Int → Int → P} (h : ∀ i j, VP (g i j) (f i j)) : OpS K (rI C g) (dIC C f) := ⟨fun {B H x y p q QD Q} e rx ry r k => by
  cases p with
  | int i =>
    cases q with
    | int j => exact ⟨i, j, rx, ry, r.1, k _ B H _ r.2 ((h i j).rp B) (.refl e)⟩
    | _ => exact r.elim
  | _ => exact r.elim⟩
abbrev dAdd := dII fun i j => .int (i + j)
abbrev dSub := dII fun i j => .int (i - j)
abbrev dMul := dIC CMulW fun i j => .int (i * j)
abbrev dMod := dIC (fun _ j => 0 < j) fun i j => .int (i % j)
abbrev dDiv := dIC CDivW fun i j => .int (i / j)
abbrev dPow := dIC CPow fun i j => .int (i ^ j.toNat)
abbrev dLt := dII fun i j => .bl (decide (i < j))
abbrev dLe := dII fun i j => .bl (decide (i ≤ j))
abbrev dGt := dII fun i j => .bl (decide (j < i))
abbrev dGe := dII fun i j => .bl (decide (j ≤ i))
theorem os_add : OpS K (rI0 fun i j => .int (i + j)) dAdd := os_I0 (by intro _ _; rfl)
theorem os_sub : OpS K (rI0 fun i j => .int (i - j)) dSub := os_I0 (by intro _ _; rfl)
theorem os_mul : OpS K (rI CMulW fun i j => .int (i * j)) dMul := os_I (by intro _ _; rfl)
theorem os_mod : OpS K (rI (fun _ j => 0 < j) fun i j => .int (i % j)) dMod := os_I (by intro _ _; rfl)
theorem os_div : OpS K (rI CDivW fun i j => .int (i / j)) dDiv := os_I (by intro _ _; rfl)
theorem os_pow : OpS K (rI CPow fun i j => .int (i ^ j.toNat)) dPow := os_I (by intro _ _; rfl)
theorem os_lt : OpS K (rI0 fun i j => .bl (decide (i < j))) dLt := os_I0 (by intro _ _; rfl)
theorem os_le : OpS K (rI0 fun i j => .bl (decide (i ≤ j))) dLe := os_I0 (by intro _ _; rfl)
theorem os_gt : OpS K (rI0 fun i j => .bl (decide (j < i))) dGt := os_I0 (by intro _ _; rfl)
theorem os_ge : OpS K (rI0 fun i j => .bl (decide (j ≤ i))) dGe := os_I0 (by intro _ _; rfl)
def dU (f : Int → P) : P → (P → Prop) → Prop
  | .int i, Q => Q (f i)
  | _, _ => False
theorem us_I {g : Int → V} {f : Int → P} (h : ∀ i, VP (g i) (f i)) : UnS K (rU g) (dU f) := ⟨fun {B H x p QD Q} e rx r k => by
  cases p with
  | int i => exact ⟨i, rx, k _ B H _ r ((h i).rp B) (.refl e)⟩
  | _ => exact r.elim⟩
abbrev dNeg := dU fun i => .int (-i)
theorem us_neg : UnS K (rU fun i => .int (-i)) dNeg := us_I (by intro _; rfl)

/-! ### == of what is no object -/
def dEq : P → P → (P → Prop) → Prop
  | .int i, .int j, Q => Q (.bl (decide (i = j)))
  | .str i, .str j, Q => Q (.bl (decide (i = j)))
  | .bl i, .bl j, Q => Q (.bl (decide (i = j)))
  | .non, .non, Q => Q (.bl true)
  | .non, .int _, Q => Q (.bl false)
  | .int _, .non, Q => Q (.bl false)
  | .non, .bl _, Q => Q (.bl false)
  | .bl _, .non, Q => Q (.bl false)
  | .non, .str _, Q => Q (.bl false)
  | .str _, .non, Q => Q (.bl false)
  | .int _, .str _, Q => Q (.bl false)
  | .str _, .int _, Q => Q (.bl false)
  | .bl _, .str _, Q => Q (.bl false)
  | .str _, .bl _, Q => Q (.bl false)
  | _, _, _ => False
def dNe (p q : P) (Q : P → Prop) : Prop := dEq p q fun z => match z with
  | .bl b => Q (.bl (!b))
  | _ => False
theorem dEq_sc {B : Hp} {p q : P} {x y : V} {QD : P → Prop} (rx : Rp K B p x) (ry : Rp K B q y) (h : dEq p q QD) : scal x y = true ∧ QD (.bl (decide (x = y))) := by
  cases p <;> cases q <;> first | exact h.elim | skip
  all_goals rw [show x = _ from rx, show y = _ from ry]
  all_goals refine ⟨rfl, ?_⟩
  all_goals first
    | exact h
    | (rw [show decide (V.int _ = V.int _) = decide _ from decide_eq_decide.mpr V.int.injEq.to_iff]; exact h)
    | (have := h; simp only [reduceCtorEq, decide_false, decide_true, V.int.injEq, V.str.injEq, V.bl.injEq] at this ⊢; exact this)
theorem os_eq : OpS K rEq dEq := ⟨fun {B H x y p q QD Q} e rx ry r k => by
  obtain ⟨h1, h2⟩ := dEq_sc rx ry r
  exact ⟨h1, k _ B H _ h2 rfl (.refl e)⟩⟩
theorem os_ne : OpS K rNe dNe := ⟨fun {B H x y p q QD Q} e rx ry r k => by
  obtain ⟨h1, h2⟩ := dEq_sc rx ry r
  exact ⟨h1, k _ B H _ h2 rfl (.refl e)⟩⟩
/-! ### is None -/
def isNon : P → Bool
  | .non => true
  | _ => false
def dIsN (p q : P) (Q : P → Prop) : Prop := match q with
  | .non => Q (.bl (isNon p))
  | _ => False
def dNotN (p q : P) (Q : P → Prop) : Prop := match q with
  | .non => Q (.bl (!isNon p))
  | _ => False
theorem isNon_rp {B : Hp} {p : P} {x : V} (r : Rp K B p x) : decide (x = V.non) = isNon p := by
  cases p with
  | lst ps => obtain ⟨a, vs, rfl, _⟩ := r; rfl
  | rol ps => obtain ⟨a, vs, rfl, _⟩ := r; rfl
  | tup ps => obtain ⟨a, vs, rfl, _⟩ := r; rfl
  | ins C fs => obtain ⟨a, dx, fv, rfl, _⟩ := r; rfl
  | _ => rw [show x = _ from r]; rfl
theorem os_isN : OpS K (fun x y H Q => y = .non ∧ Q (.bl (decide (x = .non))) H) dIsN := ⟨fun {B H x y p q QD Q} e rx ry r k => by
  cases q with
  | non => exact ⟨ry, k _ B H _ r (by rw [isNon_rp rx]; rfl) (.refl e)⟩
  | _ => exact r.elim⟩
theorem os_notN : OpS K (fun x y H Q => y = .non ∧ Q (.bl (!decide (x = .non))) H) dNotN := ⟨fun {B H x y p q QD Q} e rx ry r k => by
  cases q with
  | non => exact ⟨ry, k _ B H _ r (by rw [isNon_rp rx]; rfl) (.refl e)⟩
  | _ => exact r.elim⟩

/-! ### items -/
def dIx : P → P → (P → Prop) → Prop
  | .lst xs, .int i, Q => ∃ p, atI xs i = some p ∧ Q p
  | .rol xs, .int i, Q => ∃ p, atI xs i = some p ∧ Q p
  | .tup xs, .int i, Q => ∃ p, atI xs i = some p ∧ Q p
  | .str z, .int i, Q => z.length ≤ sizeLine ∧ ∃ c, atI z.cps.toList i = some c ∧ Q (.str ⟨#[c]⟩)
  | _, _, _ => False
theorem os_ix : OpS K (rIx K) dIx := ⟨fun {B H x y p q QD Q} e rx ry r k => by
  cases q with
  | int i =>
    cases p with
    | lst xs =>
      obtain ⟨a, vs, rfl, h1, h2⟩ := rx
      obtain ⟨p, hp, r⟩ := r
      obtain ⟨v, hv, rv⟩ := atI_rp h2 hp
      exact .inl ⟨a, vs, i, v, rfl, ry, SqL.of (e a _ h1), hv, k v B H p r rv (.refl e)⟩
    | rol xs =>
      obtain ⟨a, vs, rfl, h1, h2⟩ := rx
      obtain ⟨p, hp, r⟩ := r
      obtain ⟨v, hv, rv⟩ := atI_rp h2 hp
      exact .inl ⟨a, vs, i, v, rfl, ry, e.sqL h1, hv, k v B H p r rv (.refl e)⟩
    | tup xs =>
      obtain ⟨a, vs, rfl, h1, h2⟩ := rx
      obtain ⟨p, hp, r⟩ := r
      obtain ⟨v, hv, rv⟩ := atI_rp h2 hp
      exact .inr (.inl ⟨a, vs, i, v, rfl, ry, e.sqT h1, hv, k v B H p r rv (.refl e)⟩)
    | str z =>
      obtain ⟨hz, c, hc, r⟩ := r
      exact .inr (.inr ⟨z, i, c, rx, ry, hz, hc, k _ B H _ r rfl (.refl e)⟩)
    | _ => exact r.elim
  | _ => cases p <;> exact r.elim⟩
/-- items of lists alone, as a store's place is read -/
def dIxL : P → P → (P → Prop) → Prop
  | .lst xs, .int i, Q => ∃ p, atI xs i = some p ∧ Q p
  | .rol xs, .int i, Q => ∃ p, atI xs i = some p ∧ Q p
  | _, _, _ => False

/-! ### == of data -/
end
mutual
def P.toD : P → PyData
  | .non => .none
  | .bl b => .bool b
  | .int i => .int i
  | .str s => .str s
  | .lst xs => .list (P.toDs xs)
  | .rol xs => .list (P.toDs xs)
  | .tup xs => .tuple (P.toDs xs)
  | .ob _ => .dict []
  | .ty _ => .dict []
  | .ins _ _ => .dict []
def P.toDs : List P → List PyData
  | [] => []
  | p :: ps => P.toD p :: P.toDs ps
end
section
variable {K : PySem.W.Frag}
mutual
theorem dp_of {B : Hp} : ∀ (p : P) {v : V}, Rp K B p v → (P.toD p).canLay0 = true → Dp K B v (P.toD p)
  | .non, _, h, _ => by rw [show _ = V.non from h]; exact .non
  | .bl b, _, h, _ => by rw [show _ = V.bl b from h]; exact .bl b
  | .int i, _, h, _ => by rw [show _ = V.int i from h]; exact .int i
  | .str s, _, h, _ => by rw [show _ = V.str s from h]; exact .str s
  | .lst xs, _, ⟨a, vs, e, h1, h2⟩, c => by rw [e]; exact .lst (SqL.of h1) (dps_of xs h2 c)
  | .rol xs, _, ⟨a, vs, e, h1, h2⟩, c => by rw [e]; exact .lst h1 (dps_of xs h2 c)
  | .tup xs, _, ⟨a, vs, e, h1, h2⟩, c => by rw [e]; exact .tup h1 (dps_of xs h2 c)
  | .ob _, _, _, c => by cases c
  | .ty _, _, _, c => by cases c
  | .ins _ _, _, _, c => by cases c
theorem dps_of {B : Hp} : ∀ (ps : List P) {vs : List V}, RpA K B ps vs → PyData.canLayAll0 (P.toDs ps) = true → DpAll K B vs (P.toDs ps)
  | [], _, h, _ => by rw [show _ = ([] : List V) from h]; exact .nil
  | p :: ps, _, ⟨v, r, e, h1, h2⟩, c => by
    rw [e]
    have c' : (PyData.canLay0 p.toD && PyData.canLayAll0 (P.toDs ps)) = true := c
    rw [Bool.and_eq_true] at c'
    exact .cons (dp_of p h1 c'.1) (dps_of ps h2 c'.2)
end
mutual
theorem Dp.up {H H' : Hp} (e : Ex H H') : ∀ (d : PyData) {v : V}, Dp K H v d → Dp K H' v d
  | .none, _, h => by cases h; exact .non
  | .bool b, _, h => by cases h; exact .bl b
  | .int i, _, h => by cases h; exact .int i
  | .str x, _, h => by cases h; exact .str x
  | .list ds, _, h => by
    cases h with
    | lst h1 h2 => exact .lst (e.sqL h1) (DpAll.up e ds h2)
  | .tuple ds, _, h => by
    cases h with
    | tup h1 h2 => exact .tup (e.sqT h1) (DpAll.up e ds h2)
  | .dict _, _, h => by cases h
theorem DpAll.up {H H' : Hp} (e : Ex H H') : ∀ (ds : List PyData) {vs : List V}, DpAll K H vs ds → DpAll K H' vs ds
  | [], _, h => by cases h; exact .nil
  | d :: ds, _, h => by
    cases h with
    | cons h1 h2 => exact .cons (Dp.up e d h1) (DpAll.up e ds h2)
end
def dEqD (p q : P) (Q : P → Prop) : Prop := SeqAt.shaped p.toD = true ∧ SeqAt.shaped q.toD = true ∧ Q (.bl (PyData.eqv p.toD q.toD))
def dNeD (p q : P) (Q : P → Prop) : Prop := SeqAt.shaped p.toD = true ∧ SeqAt.shaped q.toD = true ∧ Q (.bl (!PyData.eqv p.toD q.toD))
theorem os_eqD : OpS K (rEqD K) dEqD := ⟨fun {B H x y p q QD Q} e rx ry r k =>
  ⟨p.toD, q.toD, Dp.up e _ (dp_of p rx (SeqAt.canLay_of_shaped r.1)), Dp.up e _ (dp_of q ry (SeqAt.canLay_of_shaped r.2.1)), r.1, r.2.1, k _ B H _ r.2.2 rfl (.refl e)⟩⟩
theorem os_neD : OpS K (rNeD K) dNeD := ⟨fun {B H x y p q QD Q} e rx ry r k =>
  ⟨p.toD, q.toD, Dp.up e _ (dp_of p rx (SeqAt.canLay_of_shaped r.1)), Dp.up e _ (dp_of q ry (SeqAt.canLay_of_shaped r.2.1)), r.1, r.2.1, k _ B H _ r.2.2 rfl (.refl e)⟩⟩

/-! ### built-ins -/
def dLen : List P → (P → Prop) → Prop
  | [.lst xs], Q => Q (.int xs.length)
  | [.rol xs], Q => Q (.int xs.length)
  | [.tup xs], Q => Q (.int xs.length)
  | [.str z], Q => z.length ≤ sizeLine ∧ Q (.int z.length)
  | _, _ => False
theorem one_rp {B : Hp} {p : P} {xs : List V} (r : RpA K B [p] xs) : ∃ v, xs = [v] ∧ Rp K B p v := by
  obtain ⟨v, l, e1, e2, e3⟩ := r
  exact ⟨v, by rw [e1, show l = [] from e3], e2⟩
theorem two_rp {B : Hp} {p q : P} {xs : List V} (r : RpA K B [p, q] xs) : ∃ v u, xs = [v, u] ∧ Rp K B p v ∧ Rp K B q u := by
  obtain ⟨v, l, e1, e2, e3⟩ := r
  obtain ⟨u, f1, f2⟩ := one_rp e3
  exact ⟨v, u, by rw [e1, f1], e2, f2⟩
theorem cs_len : CbS K (fun xs H Q => ∃ x n, xs = [x] ∧ LenV K x H n ∧ Q (.int n) H) dLen := ⟨fun {B H xs ps QD Q} e r q k => by
  unfold dLen at q
  split at q
  · obtain ⟨v, rfl, a, vs, rfl, h1, h2⟩ := one_rp r
    exact ⟨_, _, rfl, .inl ⟨vs, SqL.of (e a _ h1), rfl⟩, k _ B H _ q (by rw [h2.length]; rfl) (.refl e)⟩
  · obtain ⟨v, rfl, a, vs, rfl, h1, h2⟩ := one_rp r
    exact ⟨_, _, rfl, .inl ⟨vs, e.sqL h1, rfl⟩, k _ B H _ q (by rw [h2.length]; rfl) (.refl e)⟩
  · obtain ⟨v, rfl, a, vs, rfl, h1, h2⟩ := one_rp r
    exact ⟨_, _, rfl, .inr ⟨vs, e.sqT h1, rfl⟩, k _ B H _ q (by rw [h2.length]; rfl) (.refl e)⟩
  · obtain ⟨v, rfl, rfl⟩ := one_rp r
    exact ⟨_, _, rfl, ⟨q.1, rfl⟩, k _ B H _ q.2 rfl (.refl e)⟩
  · exact q.elim⟩
def dInt1 : List P → (P → Prop) → Prop
  | [.int i], Q => Q (.int i)
  | [.bl b], Q => Q (.int (if b then 1 else 0))
  | _, _ => False
theorem cs_int : CbS K (fun xs H Q => (∃ i, xs = [.int i] ∧ Q (.int i) H) ∨ ∃ k, xs = [.bl k] ∧ Q (.int (if k then 1 else 0)) H) dInt1 := ⟨fun {B H xs ps QD Q} e r q k => by
  unfold dInt1 at q
  split at q
  · obtain ⟨v, rfl, rfl⟩ := one_rp r
    exact .inl ⟨_, rfl, k _ B H _ q rfl (.refl e)⟩
  · obtain ⟨v, rfl, rfl⟩ := one_rp r
    exact .inr ⟨_, rfl, k _ B H _ q rfl (.refl e)⟩
  · exact q.elim⟩
def dAbs : List P → (P → Prop) → Prop
  | [.int i], Q => Q (.int (if i < 0 then -i else i))
  | _, _ => False
theorem cs_abs : CbS K (fun xs H Q => ∃ i, xs = [.int i] ∧ Q (.int (if i < 0 then -i else i)) H) dAbs := ⟨fun {B H xs ps QD Q} e r q k => by
  unfold dAbs at q
  split at q
  · obtain ⟨v, rfl, rfl⟩ := one_rp r
    exact ⟨_, rfl, k _ B H _ q rfl (.refl e)⟩
  · exact q.elim⟩
def intsP : List P → Option (List Int)
  | [] => some []
  | .int i :: ps => (intsP ps).map (i :: ·)
  | _ :: _ => none
theorem ints_rp {B : Hp} : ∀ {ps : List P} {vs : List V} {ns : List Int}, RpA K B ps vs → intsP ps = some ns → vs = ns.map V.int
  | [], _, _, h, e => by cases e; exact h
  | .int i :: ps, _, ns, ⟨v, r, e1, e2, e3⟩, e => by
    unfold intsP at e
    cases h : intsP ps with
    | none => rw [h] at e; cases e
    | some ms =>
      rw [h] at e
      cases Option.some.inj e
      rw [e1, ints_rp e3 h, show v = V.int i from e2]
      rfl
  | .non :: _, _, _, _, e => by cases e
  | .bl _ :: _, _, _, _, e => by cases e
  | .str _ :: _, _, _, _, e => by cases e
  | .ob _ :: _, _, _, _, e => by cases e
  | .ty _ :: _, _, _, _, e => by cases e
  | .lst _ :: _, _, _, _, e => by cases e
  | .rol _ :: _, _, _, _, e => by cases e
  | .tup _ :: _, _, _, _, e => by cases e
  | .ins _ _ :: _, _, _, _, e => by cases e
theorem ints_map (ns : List Int) : intsP (ns.map P.int) = some ns := by
  induction ns with
  | nil => rfl
  | cons n ns ih => show (intsP (ns.map P.int)).map (n :: ·) = _; rw [ih]; rfl
def dSum (ps : List P) (Q : P → Prop) : Prop := match ps with
  | [p] => (match plst p with
    | some xs => (match intsP xs with
      | some ns => Q (.int ns.sum)
      | none => False)
    | none => False)
  | _ => False
theorem cs_sum : CbS K (rSum K) dSum := ⟨fun {B H xs ps QD Q} e r q k => by
  unfold dSum at q
  split at q
  · rename_i p
    split at q
    · rename_i ys hp
      split at q
      · rename_i ns hn
        obtain ⟨v, rfl, rv⟩ := one_rp r
        obtain ⟨a, vs, rfl, h1, h2⟩ := plst_rp rv hp
        rw [ints_rp h2 hn] at h1
        exact ⟨a, ns, rfl, e.sqL h1, k _ B H _ q rfl (.refl e)⟩
      · exact q.elim
    · exact q.elim
  · exact q.elim⟩
def dListOf (ps : List P) (Q : List P → Prop) : Prop := match ps with
  | [.lst xs] => Q xs
  | [.rol xs] => Q xs
  | [.tup xs] => Q xs
  | _ => False
theorem cs_list : CbO K (fun xs H Q => ∃ p ys, xs = [.ref p] ∧ (SqL K H p ys ∨ SqT K H p ys) ∧ ∀ l, H l = none → Q (.ref l) (upd H l (.lst ys))) dListOf := ⟨fun {B H xs ps QD Q} e r q k => by
  unfold dListOf at q
  split at q
  · obtain ⟨v, rfl, a, vs, rfl, h1, h2⟩ := one_rp r
    exact ⟨a, vs, rfl, .inl (SqL.of (e a _ h1)), fun l hl => k l vs _ q h2 hl⟩
  · obtain ⟨v, rfl, a, vs, rfl, h1, h2⟩ := one_rp r
    exact ⟨a, vs, rfl, .inl (e.sqL h1), fun l hl => k l vs _ q h2 hl⟩
  · obtain ⟨v, rfl, a, vs, rfl, h1, h2⟩ := one_rp r
    exact ⟨a, vs, rfl, .inr (e.sqT h1), fun l hl => k l vs _ q h2 hl⟩
  · exact q.elim⟩
def dTupOf (ps : List P) (Q : P → Prop) : Prop := match ps with
  | [.lst xs] => Q (.tup xs)
  | [.rol xs] => Q (.tup xs)
  | [.tup xs] => Q (.tup xs)
  | _ => False
theorem cs_tuple : CbS K (fun xs H Q => ∃ p ys, xs = [.ref p] ∧ ((SqL K H p ys ∧ ∀ l, H l = none → Q (.ref l) (upd H l (.tup ys))) ∨ (SqT K H p ys ∧ Q (.ref p) H))) dTupOf := ⟨fun {B H xs ps QD Q} e r q k => by
  unfold dTupOf at q
  split at q
  · obtain ⟨v, rfl, a, vs, rfl, h1, h2⟩ := one_rp r
    refine ⟨a, vs, rfl, .inl ⟨SqL.of (e a _ h1), fun l hl => ?_⟩⟩
    have g := gr_new (o := .tup vs) e hl
    exact k _ _ _ _ q ⟨l, vs, rfl, SqT.of upd_same, RpA.mono g.b _ h2⟩ g
  · obtain ⟨v, rfl, a, vs, rfl, h1, h2⟩ := one_rp r
    refine ⟨a, vs, rfl, .inl ⟨e.sqL h1, fun l hl => ?_⟩⟩
    have g := gr_new (o := .tup vs) e hl
    exact k _ _ _ _ q ⟨l, vs, rfl, SqT.of upd_same, RpA.mono g.b _ h2⟩ g
  · obtain ⟨v, rfl, a, vs, rfl, h1, h2⟩ := one_rp r
    exact ⟨a, vs, rfl, .inr ⟨e.sqT h1, k _ B H _ q ⟨a, vs, rfl, h1, h2⟩ (.refl e)⟩⟩
  · exact q.elim⟩
/-- [x] * n -/
def dRep : P → P → (D → Prop) → Prop
  | .lst xs, .int n, Q => -(2 ^ 63) ≤ n ∧ n < 2 ^ 63 ∧ xs.length * n.toNat ≤ sizeLine ∧ Q (.ol (List.replicate n.toNat xs).flatten)
  | _, _, _ => False
theorem rep_flat {B : Hp} {ps : List P} {vs : List V} (h : RpA K B ps vs) : ∀ n : Nat, RpA K B (List.replicate n ps).flatten (List.replicate n vs).flatten
  | 0 => rfl
  | n + 1 => by
    rw [List.replicate_succ, List.flatten_cons, List.replicate_succ, List.flatten_cons]
    exact h.append (rep_flat h n)
/-! ### isinstance with a built-in class -/
def tyN : P → Option String
  | .non => some "NoneType"
  | .bl _ => some "bool"
  | .int _ => some "int"
  | .str _ => some "str"
  | .lst _ => some "list"
  | .rol _ => some "list"
  | .tup _ => some "tuple"
  | _ => none
def dIsi (ps : List P) (Q : P → Prop) : Prop := match ps with
  | [p, .ty n] => (match tyN p with
    | some t => ∃ b, kitB t n = some b ∧ Q (.bl b)
    | none => False)
  | _ => False
theorem tyx_of {B H : Hp} (e : Ex B H) : ∀ {p : P} {v : V} {t : String}, Rp K B p v → tyN p = some t → TyX K H v (.type t)
  | .non, _, _, r, h => by cases h; rw [show _ = V.non from r]; exact .base .non
  | .bl b, _, _, r, h => by cases h; rw [show _ = V.bl b from r]; exact .base (.bl b)
  | .int b, _, _, r, h => by cases h; rw [show _ = V.int b from r]; exact .base (.int b)
  | .str b, _, _, r, h => by cases h; rw [show _ = V.str b from r]; exact .base (.str b)
  | .lst b, _, _, ⟨a, vs, e1, h1, _⟩, h => by cases h; rw [e1]; exact .base (.lst (e a _ h1))
  | .rol b, _, _, ⟨a, vs, e1, h1, _⟩, h => by
    cases h
    rw [e1]
    rcases e.sqL h1 with (h2 | ⟨o, h2⟩) | ⟨o, its, n, g1, g2, _⟩
    · exact .base (.lst h2)
    · exact .base (.frz h2)
    · exact .kList g1 g2
  | .tup b, _, _, ⟨a, vs, e1, h1, _⟩, h => by
    cases h
    rw [e1]
    rcases e.sqT h1 with (h2 | ⟨o, h2⟩) | ⟨o, its, n, g1, g2, _⟩
    · exact .base (.tup h2)
    · exact .fTuple h2
    · exact .kTuple g1 g2
  | .ob _, _, _, _, h => by cases h
  | .ty _, _, _, _, h => by cases h
  | .ins _ _, _, _, _, h => by cases h
theorem cs_isi : CbS K (rIsi K) dIsi := ⟨fun {B H xs ps QD Q} e r q k => by
  unfold dIsi at q
  split at q
  · rename_i p n
    split at q
    · rename_i t ht
      obtain ⟨b, hb, q⟩ := q
      obtain ⟨v, u, rfl, r1, r2⟩ := two_rp r
      rw [show u = V.ty n from r2]
      exact ⟨v, .ty n, .type t, .type n, b, rfl, .ty n, tyx_of e r1 ht, kit_ty hb, k _ B H _ q rfl (.refl e)⟩
    · exact q.elim
  · exact q.elim⟩
end
end DL
set_option Elab.async false
set_option linter.all false
set_option maxRecDepth 100000
set_option maxHeartbeats 2000000
namespace DL
open PySem PySem.Spec L2
/-! ### what zip and enumerate walk: lists, tuples, texts in any mix -/
inductive Src where
  | L (a : Addr) | T (a : Addr) | S (z : Str)
def Src.v : Src → V
  | .L a => .ref a
  | .T a => .ref a
  | .S z => .str z
def Src.Has (K : PySem.W.Frag) (H : Hp) : Src → List V → Prop
  | .L a, xs => SqL K H a xs
  | .T a, xs => SqT K H a xs
  | .S z, xs => xs = z.cps.toList.map fun c => V.str ⟨#[c]⟩
/-- its iterator at the turn i -/
def Src.At (h : Heap) (it : Addr) (i : Nat) : Src → Prop
  | .L a => h.IsListIter it a i
  | .T a => h.IsTupleIter it a i
  | .S z => ∃ t, h.IsStrIter it (strIterType z) z t i
def Src.addr : Src → List Addr
  | .L a => [a]
  | .T a => [a]
  | .S _ => []
theorem Src.At.keep {h h' : Heap} {it : Addr} {i : Nat} : ∀ {x : Src}, x.At h it i → (∀ o, h.get? it = some o → h'.get? it = some o) → x.At h' it i
  | .L a, st, k => st.at k
  | .T a, st, k => st.at k
  | .S z, ⟨t, o, ho, r⟩, k => ⟨t, o, k o ho, r⟩
theorem Src.At.obj {h : Heap} {it : Addr} {i : Nat} : ∀ {x : Src}, x.At h it i → ∃ o, h.get? it = some o ∧ ∀ v, o.data ≠ .cell v
  | .L a, ⟨o, e, _, d⟩ => ⟨o, e, fun v q => by rw [d] at q; cases q⟩
  | .T a, ⟨o, e, _, d⟩ => ⟨o, e, fun v q => by rw [d] at q; cases q⟩
  | .S z, ⟨t, o, e, _, d⟩ => ⟨o, e, fun v q => by rw [d] at q; cases q⟩
theorem str_ty (z : Str) : strIterType z = "str_ascii_iterator" ∨ strIterType z = "str_iterator" := by
  unfold strIterType
  split
  · exact .inl rfl
  · exact .inr rfl
section
variable {X : Cx} {pins : List (Addr × Obj)} {σ : L2.St} {H : Hp} {s : Shared}
/-- what such an iterator draws -/
theorem src_draws (I : Inv X pins σ H s) {A : Around} (hh : A.handled = none) {x : Src} {xs : List V} (hq : x.Has X.K H xs) {it : Addr} {i : Nat} (st : x.At s.heap it i) (hne : ∀ a ∈ x.addr, a ≠ it) :
    ∃ (P : Nat → Value → Prop) (St : Nat → Heap → Prop), Draws X.prog X.w A it (it :: x.addr) xs.length P St ∧ St i s.heap ∧ (∀ j h, St j h → x.At h it j) ∧ ∀ j u, P j u → ∃ y, xs[j]? = some y ∧ RelV y u := by
  cases x with
  | L a =>
    obtain ⟨its, rv, p, _⟩ := I.list hq
    have hl := rv.length
    have D := Draws.list (prog := X.prog) (w := X.w) hh it a (hne a (by simp [Src.addr])) its.toArray
    rw [show its.toArray.size = xs.length by simp; omega] at D
    refine ⟨_, _, D, ⟨st, p.isList⟩, fun j h q => q.1, fun j u hu => ?_⟩
    have hu' : its[j]? = some u := by simpa using hu
    cases hy : xs[j]? with
    | none => rw [rv.none_of hy] at hu'; cases hu'
    | some y =>
      obtain ⟨u2, h1, h2⟩ := rv.get hy
      rw [hu'] at h1
      cases h1
      exact ⟨y, rfl, h2⟩
  | T a =>
    obtain ⟨its, rv, p, _⟩ := I.tuple hq
    have hl := rv.length
    have D := Draws.tuple (prog := X.prog) (w := X.w) hh it a (hne a (by simp [Src.addr])) its.toArray
    rw [show its.toArray.size = xs.length by simp; omega] at D
    refine ⟨_, _, D, ⟨st, p⟩, fun j h q => q.1, fun j u hu => ?_⟩
    have hu' : its[j]? = some u := by simpa using hu
    cases hy : xs[j]? with
    | none => rw [rv.none_of hy] at hu'; cases hu'
    | some y =>
      obtain ⟨u2, h1, h2⟩ := rv.get hy
      rw [hu'] at h1
      cases h1
      exact ⟨y, rfl, h2⟩
  | S z =>
    obtain ⟨t, st⟩ := st
    have D := Draws.text (prog := X.prog) (w := X.w) hh it z t
    have hz : xs = z.cps.toList.map fun c => V.str ⟨#[c]⟩ := hq
    rw [show z.cps.size = xs.length by rw [hz]; simp] at D
    refine ⟨_, _, D, st, fun j h q => ⟨t, q⟩, fun j u hu => ?_⟩
    obtain ⟨c, w, hc, rfl⟩ := hu
    refine ⟨.str ⟨#[c]⟩, ?_, ⟨w, rfl⟩⟩
    rw [hz, List.getElem?_map, show z.cps.toList[j]? = some c by simpa using hc]
    rfl
theorem src_inj (I : Inv X pins σ H s) {x : Src} {xs ys : List V} (h : x.Has X.K H xs) (g : x.Has X.K H ys) : xs = ys := by
  cases x with
  | L a => exact I.list_inj h g
  | T a => exact I.tuple_inj h g
  | S z => rw [show xs = _ from h, show ys = _ from g]
end
def ItzG (K : PySem.W.Frag) (a b : Src) : It :=
  ⟨fun i H => ∃ (xs ys : List V) (x y : V), a.Has K H xs ∧ b.Has K H ys ∧ xs[i]? = some x ∧ ys[i]? = some y,
    fun i H v H' => ∃ T x y, v = .ref T ∧ H T = none ∧ H' = upd H T (.tup [x, y]) ∧ (∀ xs, a.Has K H xs → xs[i]? = some x) ∧ ∀ ys, b.Has K H ys → ys[i]? = some y,
    fun i H => ∃ xs ys : List V, a.Has K H xs ∧ b.Has K H ys ∧ i ≤ xs.length ∧ i ≤ ys.length ∧ (xs.length ≤ i ∨ ys.length ≤ i)⟩
theorem turn_zipG {P : Program} {w : World} {K : PySem.W.Frag} {elts : List Expr} {kk : Nat} {tpos : Pos} {a b : Src} {N : Nat} (ha : ∀ c ∈ a.addr, c < N) (hb : ∀ c ∈ b.addr, c < N) :
    Turn P w K (.Tuple elts kk tpos) (ItzG K a b) [N + 4, N + 2, N + 3, N, N + 1] (N + 4) (fun i h => IsZip h (N + 4) (N + 2) (N + 3) .none ∧ IsTupOf2 h (N + 2) (.ref N) (.ref (N + 1)) ∧ (∃ x y, IsTupOf2 h (N + 3) x y) ∧ a.At h N i ∧ b.At h (N + 1) i) where
  mem := by simp
  obj := fun i h st c hc => by
    obtain ⟨hz, hTI, ⟨x, y, hTO⟩, h1, h2⟩ := st
    have e' : c = N + 4 ∨ c = N + 2 ∨ c = N + 3 ∨ c = N ∨ c = N + 1 := by simpa using hc
    rcases e' with q | q | q | q | q
    · rw [q]; exact ⟨_, hz, fun v q => nomatch q⟩
    · rw [q]; exact ⟨_, hTI, fun v q => nomatch q⟩
    · rw [q]; exact ⟨_, hTO, fun v q => nomatch q⟩
    · rw [q]; exact h1.obj
    · rw [q]; exact h2.obj
  keep := fun i h h' st k => by
    obtain ⟨hz, hTI, ⟨x, y, hTO⟩, h1, h2⟩ := st
    exact ⟨k _ (by simp) _ hz, k _ (by simp) _ hTI, ⟨x, y, k _ (by simp) _ hTO⟩, h1.keep fun o q => k N (by simp) o q, h2.keep fun o q => k (N + 1) (by simp) o q⟩
  item := by
    intro X hP hw hK hc i pins s σ H E I hf st hg
    subst hP hw hK
    obtain ⟨hz, hTI, ⟨x0, y0, hTO⟩, h1, h2⟩ := st
    obtain ⟨xs, ys, x, y, hqx, hqy, hx, hy⟩ := hg
    have hh : X.A.in1.handled = none := I.ok.hd hc
    obtain ⟨P1, S1, D1, s1, k1, r1⟩ := src_draws I hh hqx h1 fun c hm => Nat.ne_of_lt (ha c hm)
    obtain ⟨P2, S2, D2, s2, k2, r2⟩ := src_draws I hh hqy h2 fun c hm => Nat.ne_of_lt (Nat.lt_succ_of_lt (hb c hm))
    have hzl : N + 4 < s.heap.objs.size := Heap.lt_size hz
    have hi1 := (List.getElem?_eq_some_iff.mp hx).1
    have hi2 := (List.getElem?_eq_some_iff.mp hy).1
    refine wpAny_pyNext_zipD2_item (zip_sep2 ha hb) D1 D2 hz hTI hTO s1 s2 hi1 hi2 fun u1 u2 h' tk p1 p2 z' TO' h1' h2' hT hsz hk => ?_
    obtain ⟨y1, e1, ru1⟩ := r1 i u1 p1
    obtain ⟨y2, e2, ru2⟩ := r2 i u2 p2
    rw [hx] at e1; cases e1
    rw [hy] at e2; cases e2
    refine ⟨_, rfl, wpAny_letOwnedTupleGo_zip (s := { s with heap := h', toks := tk }) z' fun h'' z'' sb => ?_⟩
    have hT2 : h''.get? s.heap.objs.size = some { cls := .type "tuple", data := .seq #[u1, u2] } := (sb.2 _ (Nat.ne_of_gt hzl)).trans hT
    have new : ObjOk X.prog X.w (upd H s.heap.objs.size (.tup [x, y])) h'' s.heap.objs.size (.tup [x, y]) :=
      ⟨by show 2 ≤ sizeLine; decide, [u1, u2], .cons ru1 (.cons ru2 .nil), ⟨_, hT2, rfl, _, rfl⟩⟩
    have I1 : Inv X pins σ (upd H s.heap.objs.size (.tup [x, y])) { s with heap := h'', toks := tk } :=
      I.turnedNew (ch := [N + 4, N + 2, N + 3, N, N + 1]) (fun c o hb q => (sb.2 c (fun q' => hb (by simp [q']))).trans (hk c o (fun q' => hb (by simp [q'])) (fun q' => hb (by simp [q'])) (fun q' => hb (by simp [q'])) (fun q' => hb (by simp [q'])) q)) hf (Nat.le_refl _) new
    refine ⟨.ref s.heap.objs.size, _, I1, rfl, ⟨_, x, y, rfl, I.hok.fresh (Nat.le_refl _), rfl, fun l hl => by rw [src_inj I hl hqx]; exact hx, fun l hl => by rw [src_inj I hl hqy]; exact hy⟩, ⟨z'', ?_, ⟨u1, u2, ?_⟩, ?_, ?_⟩, fun c hcm => ?_⟩
    · exact (sb.2 _ (show (N + 2 : Nat) ≠ N + 4 by omega)).trans (hk _ _ (show (N + 2 : Nat) ≠ N + 4 by omega) (show (N + 2 : Nat) ≠ N + 3 by omega) (show (N + 2 : Nat) ≠ N by omega) (show (N + 2 : Nat) ≠ N + 1 by omega) hTI)
    · exact (sb.2 _ (show (N + 3 : Nat) ≠ N + 4 by omega)).trans TO'
    · exact (k1 _ _ h1').keep fun o q => (sb.2 _ (show (N : Nat) ≠ N + 4 by omega)).trans q
    · exact (k2 _ _ h2').keep fun o q => (sb.2 _ (show (N + 1 : Nat) ≠ N + 4 by omega)).trans q
    · have hlt : c < s.heap.objs.size := by
        have e' : c = N + 4 ∨ c = N + 2 ∨ c = N + 3 ∨ c = N ∨ c = N + 1 := by simpa using hcm
        rcases e' with q | q | q | q | q
        · rw [q]; exact hzl
        · rw [q]; exact Heap.lt_size hTI
        · rw [q]; exact Heap.lt_size hTO
        · rw [q]; obtain ⟨_, e1, _⟩ := h1.obj; exact Heap.lt_size e1
        · rw [q]; obtain ⟨_, e2, _⟩ := h2.obj; exact Heap.lt_size e2
      rw [upd_ne (Nat.ne_of_lt hlt)]
      exact (hf c hcm).1
  done := by
    intro X hP hw hK hc i pins s σ H E I hf st hg
    subst hP hw hK
    obtain ⟨hz, hTI, ⟨x0, y0, hTO⟩, h1, h2⟩ := st
    obtain ⟨xs, ys, hqx, hqy, hi1, hi2, hend⟩ := hg
    have hh : X.A.in1.handled = none := I.ok.hd hc
    obtain ⟨P1, S1, D1, s1, k1, r1⟩ := src_draws I hh hqx h1 fun c hm => Nat.ne_of_lt (ha c hm)
    obtain ⟨P2, S2, D2, s2, k2, r2⟩ := src_draws I hh hqy h2 fun c hm => Nat.ne_of_lt (Nat.lt_succ_of_lt (hb c hm))
    exact wpAny_pyNext_zipD2_end (zip_sep2 ha hb) D1 D2 hz hTI hTO s1 s2 hi1 hi2 (hend.imp (fun q => by omega) (fun q => by omega)) fun h' tk hk => ⟨rfl, I.turnedL (t' := tk) (ch := [N + 4, N + 2, N + 3, N, N + 1]) (fun c o hb q =>
      hk c o (fun q' => hb (by simp [q'])) (fun q' => hb (by simp [q'])) (fun q' => hb (by simp [q'])) (fun q' => hb (by simp [q'])) q) hf⟩
  self := fun A i s Q E st h => wpAny_pyIter_zip st.1 h
def iZipG (K : PySem.W.Frag) (ta : TA) : TI := fun σ H R => ta σ H fun vs H1 => ∃ (a b : Src) (xs ys : List V), vs = [a.v, b.v] ∧ a.Has K H1 xs ∧ b.Has K H1 ys ∧ R (ItzG K a b) H1
section
variable {X : Cx} {pins : List (Addr × Obj)} {σ : L2.St} {H : Hp} {s : Shared}
/-- how its iterator begins -/
theorem src_begins (I : Inv X pins σ H s) {x : Src} {xs : List V} {u : Value} (hq : x.Has X.K H xs) (r : RelV x.v u) :
    ∃ (o : Obj) (Hh : Heap → Prop), Begins u o Hh ∧ Hh s.heap ∧ (∀ c ∈ x.addr, c < s.heap.objs.size) ∧ ∀ h it, h.get? it = some o → x.At h it 0 := by
  cases x with
  | L a =>
    cases (show u = Value.ref a from r)
    obtain ⟨its, rv, p, _⟩ := I.list hq
    exact ⟨_, _, begins_list a its.toArray, p.isList, fun c hc => by rw [List.mem_singleton.mp hc]; exact p.lt, fun h it e => ⟨_, e, rfl, rfl⟩⟩
  | T a =>
    cases (show u = Value.ref a from r)
    obtain ⟨its, rv, p, _⟩ := I.tuple hq
    exact ⟨_, _, begins_tuple a its.toArray, p, fun c hc => by rw [List.mem_singleton.mp hc]; exact p.lt, fun h it e => ⟨_, e, rfl, rfl⟩⟩
  | S z =>
    obtain ⟨t, rfl⟩ := r
    exact ⟨_, _, begins_text z t, trivial, fun c hc => absurd hc List.not_mem_nil, fun h it e => ⟨t, _, e, rfl, rfl⟩⟩
theorem pi_zipG {e e2 : Expr} {ta : TA} {p pos tpos : Pos} {elts : List Expr} {kk : Nat} (hg : Gl X "zip") (hm : X.mg "zip" = none) (ha : PA X [e, e2] ta)
    (hs : starEach [e, e2] X.env = (false, eval e X.env) :: starEach [e2] X.env := by rfl) (hpl : (backTo pos (starEach [e2] X.env)).any (·.1) = false := by rfl) :
    PI X (.Tuple elts kk tpos) (.Call (.Name "zip" p) [e, e2] [] pos) (iZipG X.K ta) := by
  refine ⟨fun pins s σ H R I h => ?_⟩
  refine PyProof.Rows.Call_ (ld_blt I hg hm PyProof.Rows.boot_zip (PyProof.Rows.callWith_type1 (thn (ha.run pos pins s σ H _ I h) fun us s1 ⟨vs, H1, I1, r1, q1⟩ => ?_) hs hpl))
  obtain ⟨a, b, xs, ys, ex, hqx, hqy, q⟩ := q1
  subst ex
  cases r1 with
  | cons r rr =>
    cases rr with
    | cons r' rr =>
      cases rr
      obtain ⟨o1, Hh1, B1, g1, l1, a1⟩ := src_begins I1 hqx r
      obtain ⟨o2, Hh2, B2, g2, l2, a2⟩ := src_begins I1 hqy r'
      refine zip_begins2 B1 B2 g1 g2 fun h' hz hTI hTO h1 h2 hsz hk => wpAny_pyIter_zip hz ?_
      have I2 : Inv X pins σ H1 { s1 with heap := h' } := I1.kept (t' := s1.toks) hk
      refine ⟨s1.heap.objs.size + 4, [s1.heap.objs.size + 4, s1.heap.objs.size + 2, s1.heap.objs.size + 3, s1.heap.objs.size, s1.heap.objs.size + 1], _, _, H1, rfl, I2, turn_zipG l1 l2, ⟨hz, hTI, ⟨_, _, hTO⟩, a1 _ _ h1, a2 _ _ h2⟩, fun c hcm => ?_, q⟩
      have e' : c = s1.heap.objs.size + 4 ∨ c = s1.heap.objs.size + 2 ∨ c = s1.heap.objs.size + 3 ∨ c = s1.heap.objs.size ∨ c = s1.heap.objs.size + 1 := by simpa using hcm
      have hle : s1.heap.objs.size ≤ c := by
        rcases e' with z | z | z | z | z
        · rw [z]; exact Nat.le_add_right _ _
        · rw [z]; exact Nat.le_add_right _ _
        · rw [z]; exact Nat.le_add_right _ _
        · rw [z]; exact Nat.le_refl _
        · rw [z]; exact Nat.le_add_right _ _
      exact I1.fpOk hle (I1.hok.fresh hle)
end
/-! ### over data -/
/-- the items of what can be walked -/
def pseq : P → Option (List P)
  | .lst ps => some ps
  | .rol ps => some ps
  | .tup ps => some ps
  | .str z => some (z.cps.toList.map fun c => P.str ⟨#[c]⟩)
  | _ => none
section
variable {m : Bool} {K : PySem.W.Frag} {te ta' tb' : TE} {de da' db' : dE} {ta : TA} {da : dA} {X : Cx} {a b c e e2 : Expr} {es : List Expr} {pos : Pos}
theorem rpa_str {B : Hp} (cs : List Nat) : RpA K B (cs.map fun c => P.str ⟨#[c]⟩) (cs.map fun c => V.str ⟨#[c]⟩) := by
  induction cs with
  | nil => rfl
  | cons c cs ih => exact ⟨_, _, rfl, rfl, ih⟩
theorem pseq_src {B : Hp} {p : P} {v : V} {ps : List P} (r : Rp K B p v) (h : pseq p = some ps) : ∃ (x : Src) (vs : List V), v = x.v ∧ x.Has K B vs ∧ RpA K B ps vs := by
  cases p with
  | lst qs => cases h; obtain ⟨a, vs, e1, e2, e3⟩ := r; exact ⟨.L a, vs, e1, SqL.of e2, e3⟩
  | rol qs => cases h; obtain ⟨a, vs, e1, e2, e3⟩ := r; exact ⟨.L a, vs, e1, e2, e3⟩
  | tup qs => cases h; obtain ⟨a, vs, e1, e2, e3⟩ := r; exact ⟨.T a, vs, e1, e2, e3⟩
  | str z => cases h; exact ⟨.S z, _, r, rfl, rpa_str _⟩
  | _ => cases h
theorem Src.Has.up {B H : Hp} (e : Ex B H) : ∀ {x : Src} {vs : List V}, x.Has K B vs → x.Has K H vs
  | .L a, _, h => e.sqL h
  | .T a, _, h => e.sqT h
  | .S z, _, h => h
def zipP : List P → List P → List P
  | p :: ps, q :: qs => .tup [p, q] :: zipP ps qs
  | _, _ => []
theorem zipP_get : ∀ {ps qs : List P} {i : Nat} {r : P}, (zipP ps qs)[i]? = some r → ∃ p q, ps[i]? = some p ∧ qs[i]? = some q ∧ r = .tup [p, q]
  | [], _, _, _, h => by simp [zipP] at h
  | _ :: _, [], _, _, h => by simp [zipP] at h
  | p :: ps, q :: qs, 0, r, h => by cases h; exact ⟨p, q, rfl, rfl, rfl⟩
  | p :: ps, q :: qs, i + 1, r, h => zipP_get (ps := ps) (qs := qs) (i := i) h
theorem zipP_len : ∀ (ps qs : List P), (zipP ps qs).length = min ps.length qs.length
  | [], _ => by simp [zipP]
  | _ :: _, [] => by simp [zipP]
  | p :: ps, q :: qs => by show (zipP ps qs).length + 1 = _; rw [zipP_len]; simp only [List.length_cons]; omega
theorem itok_zip {B0 : Hp} {x y : Src} {ps qs : List P} {vs us : List V} (h1 : x.Has K B0 vs) (r1 : RpA K B0 ps vs) (h2 : y.Has K B0 us) (r2 : RpA K B0 qs us) : ItOk K (ItzG K x y) B0 (zipP ps qs) := fun B H i e1 e2 hle => by
  have g1 := h1.up (e1.trans e2)
  have g2 := h2.up (e1.trans e2)
  have l1 := r1.length
  have l2 := r2.length
  have l3 := zipP_len ps qs
  refine ⟨fun p hp => ?_, fun hge => ⟨vs, us, g1, g2, by omega, by omega, by omega⟩⟩
  obtain ⟨p1, p2, k1, k2, rfl⟩ := zipP_get hp
  obtain ⟨v1, w1, z1⟩ := r1.get k1
  obtain ⟨v2, w2, z2⟩ := r2.get k2
  refine ⟨⟨vs, us, v1, v2, g1, g2, w1, w2⟩, fun z H2 hz => ?_⟩
  obtain ⟨T, a, b, rfl, hT, rfl, f1, f2⟩ := hz
  have := f1 vs g1
  rw [w1] at this; cases this
  have := f2 us g2
  rw [w2] at this; cases this
  have g := gr_new (o := .tup [v1, v2]) e2 hT
  exact ⟨_, g, T, [v1, v2], rfl, SqT.of upd_same, v1, [v2], rfl, Rp.mono (e1.trans g.b) _ z1, v2, [], rfl, Rp.mono (e1.trans g.b) _ z2, rfl⟩
def zipQ (as : List AR) (f : List P → Prop) : Prop := match as with
  | [.inl p, .inl q] => (match pseq p, pseq q with
    | some ps, some qs => f (zipP ps qs)
    | _, _ => False)
  | _ => False
def diZ (da : dA) : dI := fun env Q => da env fun as e => zipQ as fun ps => Q ps e
theorem snd_iz (h : SndA m K ta da) : SndI m K (iZipG K ta) (diZ da) := ⟨fun {B H σ env G QD R} w q k => h.run w q fun as e vs B1 H1 G1 q1 w1 r1 s1 u1 => by
  change zipQ as fun ps => QD ps e at q1
  unfold zipQ at q1
  split at q1
  · rename_i p q
    split at q1
    · rename_i ps qs hp hq
      obtain ⟨v, l, rfl, z1, u, l2, rfl, z2, z3⟩ := r1
      cases (show l2 = [] from z3)
      obtain ⟨x, vs, rfl, f1, f2⟩ := pseq_src z1 hp
      obtain ⟨y, us, rfl, g1, g2⟩ := pseq_src z2 hq
      exact ⟨x, y, vs, us, rfl, f1.up w1.ex, g1.up w1.ex, k _ e B1 H1 G1 _ q1 w1 s1 u1 (itok_zip f1 f2 g1 g2)⟩
    · exact q1.elim
  · exact q1.elim⟩
theorem di_zip {p pos tpos : Pos} {elts : List Expr} {kk : Nat} (hg : Gl X "zip") (hm : X.mg "zip" = none) (ha : DA m X [e, e2] ta da)
    (hs : starEach [e, e2] X.env = (false, eval e X.env) :: starEach [e2] X.env := by rfl) (hpl : (backTo pos (starEach [e2] X.env)).any (·.1) = false := by rfl) :
    DI m X (.Tuple elts kk tpos) (.Call (.Name "zip" p) [e, e2] [] pos) (iZipG X.K ta) (diZ da) := ⟨pi_zipG hg hm ha.pe hs hpl, snd_iz ha.sd⟩

/-! ### one source -/
def ItS (K : PySem.W.Frag) : Src → It
  | .L a => Itl K a
  | .T a => Itt K a
  | .S z => Its z
def iSeq (K : PySem.W.Frag) (te : TE) : TI := fun σ H R => te σ H fun v H1 => ∃ (x : Src) (xs : List V), v = x.v ∧ x.Has K H1 xs ∧ R (ItS K x) H1
theorem pi_seq {tg : Expr} (hl : PE X e te) : PI X tg e (iSeq X.K te) := by
  refine ⟨fun pins s σ H R I h => ?_⟩
  refine thn (hl.run pins s σ H _ I h) fun v s1 ⟨x, H1, I1, r1, q1⟩ => ?_
  obtain ⟨y, xs, rfl, hq, q⟩ := q1
  have fr : ∀ b ∈ [s1.heap.objs.size], FpOk X pins H1 b := fun b hb => by
    rw [List.mem_singleton.mp hb]
    exact I1.fpOk (Nat.le_refl _) (I1.hok.fresh (Nat.le_refl _))
  cases y with
  | L a =>
    cases (show v = Value.ref a from r1)
    obtain ⟨its, rv, p, hz⟩ := I1.list hq
    refine wpAny_pyIter_list p.isList ?_
    exact ⟨s1.heap.objs.size, [s1.heap.objs.size], _, _, H1, rfl, I1.kept (t' := s1.toks) fun b o e => Heap.get?_push_of_some _ e, turn_list a _, ⟨_, Heap.get?_push_size _ rfl, rfl, rfl⟩, fr, q⟩
  | T a =>
    cases (show v = Value.ref a from r1)
    obtain ⟨its, rv, p, hz⟩ := I1.tuple hq
    refine wpAny_pyIter_tuple (show s1.heap.IsTuple a its.toArray from p) ?_
    exact ⟨s1.heap.objs.size, [s1.heap.objs.size], _, _, H1, rfl, I1.kept (t' := s1.toks) fun b o e => Heap.get?_push_of_some _ e, turn_tuple a _, ⟨_, Heap.get?_push_size _ rfl, rfl, rfl⟩, fr, q⟩
  | S z =>
    obtain ⟨t, rfl⟩ := r1
    refine wpAny_pyIter_strU ?_
    exact ⟨s1.heap.objs.size, [s1.heap.objs.size], _, _, H1, rfl, I1.kept (t' := s1.toks) fun b o e => Heap.get?_push_of_some _ e, turn_str _ z t _ (str_ty z), ⟨_, Heap.get?_push_size _ rfl, rfl, rfl⟩, fr, q⟩
def diS (de : dE) : dI := fun env Q => de env fun p e => match pseq p with
  | some ps => Q ps e
  | none => False
theorem itok_src {B0 : Hp} {x : Src} {ps : List P} {vs : List V} (h1 : x.Has K B0 vs) (r1 : RpA K B0 ps vs) : ItOk K (ItS K x) B0 ps := fun B H i e1 e2 hle => by
  have g1 := h1.up (e1.trans e2)
  have l1 := r1.length
  cases x with
  | L a =>
    refine ⟨fun p hp => ?_, fun hge => ⟨vs, g1, by omega⟩⟩
    obtain ⟨v1, w1, z1⟩ := r1.get hp
    refine ⟨⟨vs, v1, g1, w1⟩, fun z H2 hz => ?_⟩
    obtain ⟨rfl, f1⟩ := hz
    have := f1 vs g1
    rw [w1] at this; cases this
    exact ⟨B, .refl e2, Rp.mono e1 _ z1⟩
  | T a =>
    refine ⟨fun p hp => ?_, fun hge => ⟨vs, g1, by omega⟩⟩
    obtain ⟨v1, w1, z1⟩ := r1.get hp
    refine ⟨⟨vs, v1, g1, w1⟩, fun z H2 hz => ?_⟩
    obtain ⟨rfl, f1⟩ := hz
    have := f1 vs g1
    rw [w1] at this; cases this
    exact ⟨B, .refl e2, Rp.mono e1 _ z1⟩
  | S z =>
    have hv : vs = z.cps.toList.map fun c => V.str ⟨#[c]⟩ := h1
    have hl : vs.length = z.cps.size := by rw [hv]; simp
    refine ⟨fun p hp => ?_, fun hge => show z.cps.size ≤ i by omega⟩
    obtain ⟨v1, w1, z1⟩ := r1.get hp
    have hi := (List.getElem?_eq_some_iff.mp w1).1
    refine ⟨show i < z.cps.size by omega, fun y H2 hy => ?_⟩
    obtain ⟨rfl, c, hc, rfl⟩ := hy
    rw [hv, List.getElem?_map, show z.cps.toList[i]? = some c by simpa using hc] at w1
    cases w1
    exact ⟨B, .refl e2, Rp.mono e1 _ z1⟩
theorem snd_is (h : SndE m K te de) : SndI m K (iSeq K te) (diS de) := ⟨fun {B H σ env G QD R} w q k => h.run w q fun p e v B1 H1 G1 q1 w1 r1 s1 u1 => by
  change (match pseq p with | some ps => QD ps e | none => False) at q1
  split at q1
  · rename_i ps hp
    obtain ⟨x, vs, rfl, f1, f2⟩ := pseq_src r1 hp
    exact ⟨x, vs, rfl, f1.up w1.ex, k _ e B1 H1 G1 _ q1 w1 s1 u1 (itok_src f1 f2)⟩
  · exact q1.elim⟩
theorem di_seq {tg : Expr} (h : DE m X e te de) : DI m X tg e (iSeq X.K te) (diS de) := ⟨pi_seq h.pe, snd_is h.sd⟩
/-! ### ranges -/
def rngP (lo : Int) (n : Nat) : List P := (List.range n).map fun (i : Nat) => P.int (lo + (i : Int))
theorem rngP_len (lo : Int) (n : Nat) : (rngP lo n).length = n := by unfold rngP; simp
theorem rngP_get {lo : Int} {n i : Nat} {p : P} (h : (rngP lo n)[i]? = some p) : i < n ∧ p = .int (lo + (i : Int)) := by
  unfold rngP at h
  rw [List.getElem?_map] at h
  by_cases hi : i < n
  · rw [List.getElem?_range hi] at h
    cases h
    exact ⟨hi, rfl⟩
  · rw [List.getElem?_eq_none (by simpa using hi)] at h; cases h
theorem itok_rng {B0 : Hp} {lo : Int} {n : Nat} : ItOk K (Itr lo n) B0 (rngP lo n) := fun B H i e1 e2 _ => by
  refine ⟨fun p hp => ?_, fun hge => by rw [rngP_len] at hge; exact hge⟩
  obtain ⟨hi, rfl⟩ := rngP_get hp
  refine ⟨hi, fun x H2 hx => ?_⟩
  obtain ⟨rfl, rfl⟩ := hx
  exact ⟨B, .refl e2, rfl⟩
def rng1Q (as : List AR) (f : List P → Prop) : Prop := match as with
  | [.inl (.int j)] => -(2 ^ 62) ≤ j ∧ j < 2 ^ 62 ∧ f (rngP 0 j.toNat)
  | _ => False
def rng2Q (as : List AR) (f : List P → Prop) : Prop := match as with
  | [.inl (.int i), .inl (.int j)] => (-(2 ^ 62) ≤ i ∧ i < 2 ^ 62 ∧ -(2 ^ 62) ≤ j ∧ j < 2 ^ 62) ∧ f (rngP i (j - i).toNat)
  | _ => False
def diR1 (da : dA) : dI := fun env Q => da env fun as e => rng1Q as fun ps => Q ps e
def diR2 (da : dA) : dI := fun env Q => da env fun as e => rng2Q as fun ps => Q ps e
theorem snd_ir1 (h : SndA m K ta da) : SndI m K (iRng1 ta) (diR1 da) := ⟨fun {B H σ env G QD R} w q k => h.run w q fun as e vs B1 H1 G1 q1 w1 r1 s1 u1 => by
  change rng1Q as fun ps => QD ps e at q1
  unfold rng1Q at q1
  split at q1
  · rename_i j
    obtain ⟨v, l, rfl, z1, z2⟩ := r1
    cases (show l = [] from z2)
    cases (show v = V.int j from z1)
    exact ⟨j, rfl, q1.1, q1.2.1, k _ e B1 H1 G1 _ q1.2.2 w1 s1 u1 itok_rng⟩
  · exact q1.elim⟩
theorem snd_ir2 (h : SndA m K ta da) : SndI m K (iRng2 ta) (diR2 da) := ⟨fun {B H σ env G QD R} w q k => h.run w q fun as e vs B1 H1 G1 q1 w1 r1 s1 u1 => by
  change rng2Q as fun ps => QD ps e at q1
  unfold rng2Q at q1
  split at q1
  · rename_i i j
    obtain ⟨v, l, rfl, z1, u, l2, rfl, z2, z3⟩ := r1
    cases (show l2 = [] from z3)
    cases (show v = V.int i from z1)
    cases (show u = V.int j from z2)
    exact ⟨i, j, rfl, q1.1, k _ e B1 H1 G1 _ q1.2 w1 s1 u1 itok_rng⟩
  · exact q1.elim⟩
theorem di_rng1 {tg c0 : Expr} {e0 : Expr} (h : PA X [e0] ta → PI X tg c0 (iRng1 ta)) (ha : DA m X [e0] ta da) : DI m X tg c0 (iRng1 ta) (diR1 da) := ⟨h ha.pe, snd_ir1 ha.sd⟩
theorem di_rng2 {tg c0 : Expr} {e0 e1 : Expr} (h : PA X [e0, e1] ta → PI X tg c0 (iRng2 ta)) (ha : DA m X [e0, e1] ta da) : DI m X tg c0 (iRng2 ta) (diR2 da) := ⟨h ha.pe, snd_ir2 ha.sd⟩
end
end DL
set_option Elab.async false
set_option linter.all false
set_option maxRecDepth 100000
set_option maxHeartbeats 2000000
namespace DL
open PySem PySem.Spec L2
/-! ### what is made of tuples and of what is no object leans on no list -/
mutual
def tupO : P → Prop
  | .non => True
  | .bl _ => True
  | .int _ => True
  | .str _ => True
  | .ob _ => True
  | .ty _ => True
  | .tup ps => tupOs ps
  | .lst _ => False
  | .rol _ => False
  | .ins _ fs => tupOf fs
def tupOs : List P → Prop
  | [] => True
  | p :: ps => tupO p ∧ tupOs ps
def tupOf : List (Str × P) → Prop
  | [] => True
  | (_, p) :: ps => tupO p ∧ tupOf ps
end
/-- B without F -/
def cutB (B : Hp) (F : List Addr) : Hp := fun a => if a ∈ F then none else B a
theorem cutB_in {B : Hp} {F : List Addr} {a : Addr} {o : HO} (h : B a = some o) (n : a ∉ F) : cutB B F a = some o := by
  unfold cutB; rw [if_neg n]; exact h
theorem cutB_ex {B : Hp} {F : List Addr} : Ex (cutB B F) B := fun a o h => by
  unfold cutB at h
  split at h
  · cases h
  · exact h
section
variable {K : PySem.W.Frag}
def isT : HO → Bool
  | .tup _ => true
  | .frz _ (.tup _) => true
  | .ins _ _ _ => true
  | _ => false
def isLs : D → Bool
  | .oi _ _ => false
  | _ => true
mutual
theorem tup_rp {B : Hp} {F : List Addr} (hF : ∀ a ∈ F, ∀ o, B a = some o → isT o = false) : ∀ (p : P) {v : V}, tupO p → Rp K B p v → Rp K (cutB B F) p v
  | .non, _, _, r => r
  | .bl _, _, _, r => r
  | .int _, _, _, r => r
  | .str _, _, _, r => r
  | .ob _, _, _, r => r
  | .ty _, _, _, r => r
  | .tup ps, _, h, ⟨a, vs, e, h1, h2⟩ => by
    refine ⟨a, vs, e, ?_, tups_rp hF ps h h2⟩
    rcases h1 with (h1 | ⟨o, h1⟩) | h1
    · exact .inl (.inl (cutB_in h1 fun hm => by have := hF a hm _ h1; cases this))
    · exact .inl (.inr ⟨o, cutB_in h1 fun hm => by have := hF a hm _ h1; cases this⟩)
    · exact .inr h1
  | .lst _, _, h, _ => h.elim
  | .rol _, _, h, _ => h.elim
  | .ins C fs, _, h, ⟨a, dx, fv, e, h1, h2⟩ => ⟨a, dx, fv, e, cutB_in h1 (fun hm => by have := hF a hm _ h1; cases this), tupf_rp hF fs h h2⟩
theorem tups_rp {B : Hp} {F : List Addr} (hF : ∀ a ∈ F, ∀ o, B a = some o → isT o = false) : ∀ (ps : List P) {vs : List V}, tupOs ps → RpA K B ps vs → RpA K (cutB B F) ps vs
  | [], _, _, h => h
  | p :: ps, _, h, ⟨v, r, e, h1, h2⟩ => ⟨v, r, e, tup_rp hF p h.1 h1, tups_rp hF ps h.2 h2⟩
theorem tupf_rp {B : Hp} {F : List Addr} (hF : ∀ a ∈ F, ∀ o, B a = some o → isT o = false) : ∀ (ps : List (Str × P)) {vs : List (Str × V)}, tupOf ps → RpF K B ps vs → RpF K (cutB B F) ps vs
  | [], _, _, h => h
  | (_, p) :: ps, _, h, ⟨v, r, e, h1, h2⟩ => ⟨v, r, e, tup_rp hF p h.1 h1, tupf_rp hF ps h.2 h2⟩
end
theorem RpD.kinds {B H : Hp} : ∀ {d : D} {v : V} {F : List Addr}, isLs d = true → RpD K B H d v F → ∀ a ∈ F, ∃ vs, H a = some (.lst vs)
  | .oi _ _, _, _, h, _, _, _ => by cases h
  | .sh p, _, _, _, ⟨e1, _⟩, a, h => by rw [e1] at h; cases h
  | .ol ps, _, _, _, ⟨a, vs, e1, e2, e3, e4⟩, b, h => by
    rw [e1] at h
    rw [List.mem_singleton.mp h]
    exact ⟨_, e3⟩
  | .oll pss, _, _, _, ⟨a, as, e1, e2, e3, e4, e5⟩, b, h => by
    rw [e1] at h
    rcases List.mem_cons.mp h with h | h
    · rw [h]; exact ⟨_, e3⟩
    · obtain ⟨i, hi, e⟩ := List.getElem_of_mem h
      have h2 : pss[i]? = some (pss[i]'(by omega)) := List.getElem?_eq_getElem _
      obtain ⟨vs, g1, _⟩ := e5 i b _ (by rw [List.getElem?_eq_getElem hi, e]) h2
      exact ⟨_, g1⟩
variable {m : Bool} {pn : List Nat} {te ti tj : TE} {de di dj : dE} {dq : dO} {X : Cx} {a b c e : Expr} {pos : Pos}
def dLendT' (i : Nat) (de : dE) : dE := fun env Q => match env[i]? with
  | some (some d) => isLs d = true ∧ de (env.set i (some (.sh d.frz))) fun p _ => tupO p ∧ Q p env
  | _ => False
theorem snd_lendT' {i : Nat} (h : SndE true K te de) : SndE m K te (dLendT' i de) := ⟨fun {B H σ env G QD Q} w q k => by
  unfold dLendT' at q
  split at q
  · rename_i d hd
    obtain ⟨v0, _, rd⟩ := w.sl i d hd
    refine h.run (w.lent hd) q.2 fun p e v B1 H1 G1 q1 w1 r1 s1 u1 => ?_
    obtain ⟨_, _, g⟩ := u1 rfl
    have nb : ∀ a ∈ G i, B a = none := fun a ha => w.nb i a ha
    have eB : Ex B (cutB B1 (G i)) := fun a o ho => cutB_in (g.b a o ((frz_gr w.ex nb).1 a o ho)) fun hm => by rw [nb a hm] at ho; cases ho
    have g2 : Gr B H (cutB B1 (G i)) H1 := ⟨eB, g.h, cutB_ex.trans g.w, fun a o ho hn => by
      unfold cutB
      split
      · rfl
      · rename_i hm
        refine g.n a o ho ?_
        unfold frzB
        rw [if_neg hm]
        exact hn⟩
    refine k p env v _ H1 G q1.2 (w.gr g2) (tup_rp (fun a ha o ho => ?_) p q1.1 r1) g2.stp (.gr g2)
    obtain ⟨vs, hvs⟩ := rd.kinds q.1 a ha
    have := g.w a o ho
    rw [g.h a _ hvs] at this
    cases this
    rfl
  · exact q.elim⟩
theorem de_lendT (i : Nat) (h : DE true X a te de) : DE m X a te (dLendT' i de) := ⟨h.pe, snd_lendT' h.sd⟩

/-! ### comprehensions, as the text has them -/
structure DTs (m : Bool) (X : Cx) (ifs : List Expr) (tt : TT) (dt : dT) : Prop where
  pe : PTs X ifs tt
  sd : SndT m X.K tt dt
def dYes : dT := fun env Q => Q true env
theorem dts_nil : DTs m X [] tYes dYes := ⟨pts_nil, ⟨fun {B H σ env G QD Q} w q k => k true env B H G q w .refl (.gr (.refl w.ex))⟩⟩
theorem dts_one {tt : TT} {dt : dT} (h : DT m X c tt dt) : DTs m X [c] tt dt := ⟨pts_one h.pe, h.sd⟩
variable {elt tg iter : Expr} {ifs : List Expr} {scope : Scope} {own : List (Str × Nat)} {wi : TI} {g : TG} {tt : TT} {dw : dI} {dg : dG} {dt : dT}
abbrev Blk (X : Cx) (scope : Scope) (s : Shared) (H : Hp) (C : Addr) (cl : List (Str × Addr)) (fp : List Addr) : Cx := X.blk s H scope (compEnvC scope cl C X.env) fp
abbrev z0 : Shared := {}
abbrev z1 : Hp := fun _ => none
/-- what a block's terms may name of the block -/
abbrev BF (α : Type) := Shared → Hp → Addr → List (Str × Addr) → List Addr → α
variable {g' : BF TG} {dg' : BF dG} {tt' : BF TT} {dt' : BF dT} {te' : BF TE} {de' : BF dE} {dq' : BF dO}
theorem do_lc {n : Nat} (hc : X.calm = true) (hN : X.N.Nodup) (hi : DI false X tg iter wi dw) (ok : BlkOk X.N X.env.scope scope own)
    (hg : ∀ s H C cl fp, DG (others n (own.map (·.2))) (Blk X scope s H C cl fp) tg (g' s H C cl fp) (dg' s H C cl fp)) (ht : ∀ s H C cl fp, DTs false (Blk X scope s H C cl fp) ifs (tt' s H C cl fp) (dt' s H C cl fp)) (he : ∀ s H C cl fp, DE false (Blk X scope s H C cl fp) elt (te' s H C cl fp) (de' s H C cl fp))
    (eg : ∀ s H C cl fp, g' s H C cl fp = g' z0 z1 0 [] [] := by intros; rfl) (et : ∀ s H C cl fp, tt' s H C cl fp = tt' z0 z1 0 [] [] := by intros; rfl) (ee : ∀ s H C cl fp, te' s H C cl fp = te' z0 z1 0 [] [] := by intros; rfl)
    (hs : ∀ x, foldedSetIterable iter X.env x = pure x := by intro _; rfl) :
    DO false X (.ListComp elt [⟨tg, iter, ifs, 0⟩] scope pos) (tLc wi (g' z0 z1 0 [] []) (tt' z0 z1 0 [] []) (te' z0 z1 0 [] []) (own.map (·.2))) (dLc dw (dg' z0 z1 0 [] []) (dt' z0 z1 0 [] []) (de' z0 z1 0 [] []) n (own.map (·.2))) :=
  ⟨pe_lc hc hN hi.pe ok (fun s H C cl fp => by rw [← eg s H C cl fp]; exact (hg s H C cl fp).pe) (fun s H C cl fp => by rw [← et s H C cl fp]; exact (ht s H C cl fp).pe) (fun s H C cl fp => by rw [← ee s H C cl fp]; exact (he s H C cl fp).pe) hs,
   snd_lc hi.sd (hg z0 z1 0 [] []).sd (ht z0 z1 0 [] []).sd (he z0 z1 0 [] []).sd⟩
theorem do_lcP {n : Nat} (hc : X.calm = true) (hN : X.N.Nodup) (hi : DI m X tg iter wi dw) (ok : BlkOk X.N X.env.scope scope own)
    (hg : ∀ s H C cl fp, DG (others n (own.map (·.2))) (Blk X scope s H C cl fp) tg (g' s H C cl fp) (dg' s H C cl fp)) (ht : ∀ s H C cl fp, DTs true (Blk X scope s H C cl fp) ifs (tt' s H C cl fp) (dt' s H C cl fp)) (he : ∀ s H C cl fp, DE true (Blk X scope s H C cl fp) elt (te' s H C cl fp) (de' s H C cl fp))
    (eg : ∀ s H C cl fp, g' s H C cl fp = g' z0 z1 0 [] [] := by intros; rfl) (et : ∀ s H C cl fp, tt' s H C cl fp = tt' z0 z1 0 [] [] := by intros; rfl) (ee : ∀ s H C cl fp, te' s H C cl fp = te' z0 z1 0 [] [] := by intros; rfl)
    (hs : ∀ x, foldedSetIterable iter X.env x = pure x := by intro _; rfl) :
    DO m X (.ListComp elt [⟨tg, iter, ifs, 0⟩] scope pos) (tLc wi (g' z0 z1 0 [] []) (tt' z0 z1 0 [] []) (te' z0 z1 0 [] []) (own.map (·.2))) (dLcP dw (dg' z0 z1 0 [] []) (dt' z0 z1 0 [] []) (de' z0 z1 0 [] []) n (own.map (·.2))) :=
  ⟨pe_lc hc hN hi.pe ok (fun s H C cl fp => by rw [← eg s H C cl fp]; exact (hg s H C cl fp).pe) (fun s H C cl fp => by rw [← et s H C cl fp]; exact (ht s H C cl fp).pe) (fun s H C cl fp => by rw [← ee s H C cl fp]; exact (he s H C cl fp).pe) hs,
   snd_lcP hi.sd (hg z0 z1 0 [] []).sd (ht z0 z1 0 [] []).sd (he z0 z1 0 [] []).sd⟩
variable {y : Str} {py spos : Pos}
theorem ds_setLc {i n : Nat} (hc : X.calm = true) (hN : X.N.Nodup) (hy : X.N[i]? = some y) (hyl : X.env.scope.names.lookup y = some .local)
    (hsw : swapsWith (.ListComp elt [⟨tg, iter, ifs, 0⟩] scope pos) (some (.Name y py)) spos.line X.env = pure true) (hp : i ∉ pn) (hi : DI false X tg iter wi dw) (ok : BlkOk X.N X.env.scope scope own)
    (hg : ∀ s H C cl fp, DG (others n (own.map (·.2))) (Blk X scope s H C cl fp) tg (g' s H C cl fp) (dg' s H C cl fp)) (ht : ∀ s H C cl fp, DTs false (Blk X scope s H C cl fp) ifs (tt' s H C cl fp) (dt' s H C cl fp)) (he : ∀ s H C cl fp, DE false (Blk X scope s H C cl fp) elt (te' s H C cl fp) (de' s H C cl fp))
    (eg : ∀ s H C cl fp, g' s H C cl fp = g' z0 z1 0 [] [] := by intros; rfl) (et : ∀ s H C cl fp, tt' s H C cl fp = tt' z0 z1 0 [] [] := by intros; rfl) (ee : ∀ s H C cl fp, te' s H C cl fp = te' z0 z1 0 [] [] := by intros; rfl)
    (hs : ∀ x, foldedSetIterable iter X.env x = pure x := by intro _; rfl) :
    DS pn X (.Assign [.Name y py] (.ListComp elt [⟨tg, iter, ifs, 0⟩] scope pos) spos) (tAsg (tLc wi (g' z0 z1 0 [] []) (tt' z0 z1 0 [] []) (te' z0 z1 0 [] []) (own.map (·.2))) (gName i)) (dPut i (dLc dw (dg' z0 z1 0 [] []) (dt' z0 z1 0 [] []) (de' z0 z1 0 [] []) n (own.map (·.2)))) :=
  ⟨ps_setLc hc hN hy hyl hsw hi.pe ok (fun s H C cl fp => by rw [← eg s H C cl fp]; exact (hg s H C cl fp).pe) (fun s H C cl fp => by rw [← et s H C cl fp]; exact (ht s H C cl fp).pe) (fun s H C cl fp => by rw [← ee s H C cl fp]; exact (he s H C cl fp).pe) hs,
   snd_put hp (snd_lc hi.sd (hg z0 z1 0 [] []).sd (ht z0 z1 0 [] []).sd (he z0 z1 0 [] []).sd)⟩
theorem ds_setLcP {i n : Nat} (hc : X.calm = true) (hN : X.N.Nodup) (hy : X.N[i]? = some y) (hyl : X.env.scope.names.lookup y = some .local)
    (hsw : swapsWith (.ListComp elt [⟨tg, iter, ifs, 0⟩] scope pos) (some (.Name y py)) spos.line X.env = pure true) (hp : i ∉ pn) (hi : DI false X tg iter wi dw) (ok : BlkOk X.N X.env.scope scope own)
    (hg : ∀ s H C cl fp, DG (others n (own.map (·.2))) (Blk X scope s H C cl fp) tg (g' s H C cl fp) (dg' s H C cl fp)) (ht : ∀ s H C cl fp, DTs true (Blk X scope s H C cl fp) ifs (tt' s H C cl fp) (dt' s H C cl fp)) (he : ∀ s H C cl fp, DE true (Blk X scope s H C cl fp) elt (te' s H C cl fp) (de' s H C cl fp))
    (eg : ∀ s H C cl fp, g' s H C cl fp = g' z0 z1 0 [] [] := by intros; rfl) (et : ∀ s H C cl fp, tt' s H C cl fp = tt' z0 z1 0 [] [] := by intros; rfl) (ee : ∀ s H C cl fp, te' s H C cl fp = te' z0 z1 0 [] [] := by intros; rfl)
    (hs : ∀ x, foldedSetIterable iter X.env x = pure x := by intro _; rfl) :
    DS pn X (.Assign [.Name y py] (.ListComp elt [⟨tg, iter, ifs, 0⟩] scope pos) spos) (tAsg (tLc wi (g' z0 z1 0 [] []) (tt' z0 z1 0 [] []) (te' z0 z1 0 [] []) (own.map (·.2))) (gName i)) (dPut i (dLcP dw (dg' z0 z1 0 [] []) (dt' z0 z1 0 [] []) (de' z0 z1 0 [] []) n (own.map (·.2)))) :=
  ⟨ps_setLc hc hN hy hyl hsw hi.pe ok (fun s H C cl fp => by rw [← eg s H C cl fp]; exact (hg s H C cl fp).pe) (fun s H C cl fp => by rw [← et s H C cl fp]; exact (ht s H C cl fp).pe) (fun s H C cl fp => by rw [← ee s H C cl fp]; exact (he s H C cl fp).pe) hs,
   snd_put hp (snd_lcP hi.sd (hg z0 z1 0 [] []).sd (ht z0 z1 0 [] []).sd (he z0 z1 0 [] []).sd)⟩
/-! ### a list of own lists -/
structure AccO (K : PySem.W.Frag) (B H : Hp) (G : Fp) (l : Addr) (as : List Addr) (pss : List (List P)) : Prop where
  at_ : H l = some (.lst (as.map V.ref))
  len : as.length = pss.length
  its : ∀ (i : Nat) (b : Addr) (ps : List P), as[i]? = some b → pss[i]? = some ps → ∃ vs, H b = some (.lst vs) ∧ RpA K B ps vs
  nd : (l :: as).Nodup
  nb : ∀ a ∈ l :: as, B a = none
  ap : ∀ a ∈ l :: as, ∀ i, a ∉ G i
theorem AccO.there {B H : Hp} {G : Fp} {l : Addr} {as : List Addr} {pss : List (List P)} (x : AccO K B H G l as pss) : ∀ a ∈ l :: as, ∃ o, H a = some o := fun a h => by
  rcases List.mem_cons.mp h with h | h
  · rw [h]; exact ⟨_, x.at_⟩
  · obtain ⟨i, hi, e⟩ := List.getElem_of_mem h
    have h2 : pss[i]? = some (pss[i]'(by have := x.len; omega)) := List.getElem?_eq_getElem _
    obtain ⟨vs, g1, _⟩ := x.its i a _ (by rw [List.getElem?_eq_getElem hi, e]) h2
    exact ⟨_, g1⟩
theorem AccO.stp {B H B' H' : Hp} {G G' : Fp} {l : Addr} {as : List Addr} {pss : List (List P)} (a : AccO K B H G l as pss) (s : Stp B H G B' H' G') : AccO K B' H' G' l as pss where
  at_ := s.kp l _ a.at_ (a.ap l List.mem_cons_self)
  len := a.len
  its := fun i b ps h1 h2 => by
    obtain ⟨vs, g1, g2⟩ := a.its i b ps h1 h2
    exact ⟨vs, s.kp b _ g1 (a.ap b (List.mem_cons_of_mem _ (List.mem_of_getElem? h1))), RpA.mono s.ex ps g2⟩
  nd := a.nd
  nb := fun x hx => by
    obtain ⟨o, ho⟩ := a.there x hx
    exact s.bs x o ho (a.nb x hx) (a.ap x hx)
  ap := fun x hx i hi => by
    obtain ⟨o, ho⟩ := a.there x hx
    rcases s.fp i x hi with ⟨j, hj⟩ | hn
    · exact a.ap x hx j hj
    · rw [ho] at hn; cases hn
theorem AccO.gsub {B H : Hp} {G G' : Fp} {l : Addr} {as : List Addr} {pss : List (List P)} (a : AccO K B H G l as pss) (h : ∀ i x, x ∈ G' i → ∃ j, x ∈ G j) : AccO K B H G' l as pss :=
  ⟨a.at_, a.len, a.its, a.nd, a.nb, fun x hx i hi => by
    obtain ⟨j, hj⟩ := h i x hi
    exact a.ap x hx j hj⟩
theorem AccO.wd {B H : Hp} {σ : L2.St} {env : Env} {G : Fp} {l : Addr} {as : List Addr} {pss : List (List P)} {u : HO} (a : AccO K B H G l as pss) (w : Wd K B H σ env G) : Wd K B (upd H l u) σ env G where
  ex := fun x o h => by rw [upd_ne (ne_of_none h (a.nb l List.mem_cons_self))]; exact w.ex x o h
  sl := fun i d e => by
    obtain ⟨v, h1, h2⟩ := w.sl i d e
    refine ⟨v, h1, RpD.mono (Ex.refl B) h2 fun x hx o ho => ?_⟩
    rw [upd_ne fun q => a.ap l List.mem_cons_self i (by rw [← q]; exact hx)]
    exact ho
  no := w.no
  nd := w.nd
  dj := w.dj
  nb := w.nb
  len := w.len
def ownL : D → Option (List P)
  | .ol ps => some ps
  | _ => none
def dLcO (di : dI) (dg : dG) (dq : dO) (n : Nat) (vs : List Nat) : dO := fun env Q => di env fun ps env1 => lenE n env1 = true ∧ ∃ Inv : Nat → List (List P) → Env → Prop, Inv 0 [] env1 ∧
  (∀ i p acc e, ps[i]? = some p → Inv i acc e → dg p (wipeE e vs) fun e2 => dq e2 fun y e4 => acc.length < sizeLine ∧ ∃ qs, ownL y = some qs ∧ Inv (i + 1) (acc ++ [qs]) (wipeE e4 vs)) ∧
  ∀ acc e, Inv ps.length acc e → Q (.oll acc) e
theorem snd_lcO {n : Nat} {vs : List Nat} (hi : SndI m K wi dw) (hg : SndG (others n vs) K g dg) (he : SndO false K te dq) : SndO false K (tLc wi g tYes te vs) (dLcO dw dg dq n vs) := ⟨fun {B H σ env G QD Q} w q k => by
  refine hi.run w q fun ps env1 B1 H1 G1 J q1 w1 s1 _ hJ => ?_
  obtain ⟨hn, Inv, i0, turn, done⟩ := q1
  have hσ : σ.length ≤ n := by rw [← w1.len]; exact lenE_le hn
  intro l hl
  let Wx : Nat → Hp → Prop := fun i H' => ∃ acc as env' B' G', Inv i acc env' ∧ Wd K B' H' σ env' G' ∧ Stp B1 H1 G1 B' H' G' ∧ AccO K B' H' G' l as acc ∧ (∀ a ∈ as, (∃ j, a ∈ G1 j) ∨ H1 a = none)
  refine ⟨fun i mm H' => mm = ps.length - i ∧ i ≤ ps.length ∧ Wx i H', ⟨_, rfl, Nat.zero_le _, [], [], env1, B1, G1, i0, ?_, stp_new hl, ⟨upd_same, rfl, fun i b qs h1 h2 => by simp at h1, by simp, fun a ha => by rw [List.mem_singleton.mp ha]; exact w1.ex.back hl, fun a ha i hi => by rw [List.mem_singleton.mp ha] at hi; exact w1.off hl i hi⟩, fun a ha => absurd ha List.not_mem_nil⟩, ?_⟩
  · exact w1.gr ⟨Ex.refl _, fun a u k => by rw [upd_ne (ne_of_none k hl)]; exact k, fun a u k => by rw [upd_ne (ne_of_none (w1.ex a u k) hl)]; exact w1.ex a u k, fun a u k n => n⟩
  rintro i mm H' ⟨rfl, hle, acc, as, env', B', G', hI, w', s', a', nw⟩
  obtain ⟨hgo, hst⟩ := hJ B' H' i s'.ex w'.ex hle
  by_cases hlt : i < ps.length
  · obtain ⟨go, yl⟩ := hgo ps[i] (List.getElem?_eq_getElem hlt)
    refine .inr ⟨go, Wx (i + 1), fun H2 h2 => ⟨ps.length - (i + 1), by omega, rfl, hlt, h2⟩, fun x H2 y => ?_⟩
    obtain ⟨B2, g2, r2⟩ := yl x H2 y
    have w2 := (w'.gr g2).wipe vs
    have s2 := (s'.trans (g2.stp (G := G'))).wipeG (vs := vs)
    have a2 := a'.stp (G' := wipeG G' vs) ((g2.stp (G := G')).wipeG (vs := vs))
    refine hg.run w2 r2 (turn i ps[i] acc env' (List.getElem?_eq_getElem hlt) hI) fun env3 σ3 G3 q3 w3 g3 p3 => ?_
    have hw3 := wipe_pin p3 hσ
    have hl3 : σ3.length = σ.length := by rw [p3.1, L2.wipe_length]
    refine ⟨hw3, ?_⟩
    have s3 := s2.trans (stp_g g3)
    have a3 := a2.stp (stp_g g3)
    show if true = true then (te σ3 H2 fun y H4 => ∃ acc, H4 l = some (HO.lst acc) ∧ acc.length < sizeLine ∧ Wx (i + 1) (upd H4 l (HO.lst (acc ++ [y])))) else Wx (i + 1) H2
    rw [if_pos rfl]
    refine he.run w3 q3 fun d5 env5 v5 F5 B5 H5 G5 q5 w5 o5 s5 _ => ?_
    obtain ⟨hlen, qs, hq, q5⟩ := q5
    have st5 := s3.trans s5
    have a5 := a3.stp s5
    have hd : d5 = .ol qs := by
      cases d5 with
      | ol zs => cases hq; rfl
      | _ => cases hq
    subst hd
    obtain ⟨b, ws, rfl, rfl, hb, rb⟩ := o5.rp
    have hbm : b ∉ l :: as := fun hm => by
      rcases o5.nw b List.mem_cons_self with ⟨j, hj⟩ | hx
      · exact a3.ap b hm j hj
      · obtain ⟨o, ho⟩ := a3.there b hm
        rw [hx] at ho; cases ho
    have hbl : b ≠ l := fun q => hbm (by rw [q]; exact List.mem_cons_self)
    refine ⟨as.map V.ref, a5.at_, by rw [List.length_map, a5.len]; exact hlen, acc ++ [qs], as ++ [b], wipeE env5 vs, B5, wipeG G5 vs, q5, ?_, (st5.wipeG).grow hl, ⟨?_, ?_, ?_, ?_, ?_, ?_⟩, ?_⟩
    · exact (a5.gsub fun i x hx => ⟨i, wipeG_sub hx⟩).wd (w5.unwipe hw3 hl3)
    · rw [upd_same, List.map_append]; rfl
    · rw [List.length_append, List.length_append, a5.len]; rfl
    · intro j c zs h1 h2
      by_cases hj : j < as.length
      · rw [List.getElem?_append_left hj] at h1
        rw [List.getElem?_append_left (by rw [← a5.len]; exact hj)] at h2
        obtain ⟨us, g1, g2⟩ := a5.its j c zs h1 h2
        refine ⟨us, ?_, g2⟩
        rw [upd_ne fun q => (List.nodup_cons.mp a5.nd).1 (by rw [← q]; exact List.mem_of_getElem? h1)]
        exact g1
      · have hj2 : j = as.length := by
          have := (List.getElem?_eq_some_iff.mp h1).1
          rw [List.length_append, List.length_singleton] at this
          omega
        subst hj2
        rw [List.getElem?_append_right (Nat.le_refl _), Nat.sub_self] at h1
        rw [a5.len, List.getElem?_append_right (Nat.le_refl _), Nat.sub_self] at h2
        cases h1
        cases h2
        exact ⟨ws, by rw [upd_ne hbl]; exact hb, rb⟩
    · rw [← List.cons_append]
      refine List.nodup_append.mpr ⟨a5.nd, by simp, fun x hx y hy => ?_⟩
      rw [List.mem_singleton.mp hy]
      exact fun q => hbm (by rw [← q]; exact hx)
    · intro x hx
      rw [← List.cons_append] at hx
      rcases List.mem_append.mp hx with hx | hx
      · exact a5.nb x hx
      · rw [List.mem_singleton.mp hx]; exact o5.nb b List.mem_cons_self
    · intro x hx j hj
      rw [← List.cons_append] at hx
      rcases List.mem_append.mp hx with hx | hx
      · exact a5.ap x hx j (wipeG_sub hj)
      · rw [List.mem_singleton.mp hx] at hj; exact o5.ap b List.mem_cons_self j (wipeG_sub hj)
    · intro x hx
      rcases List.mem_append.mp hx with hx | hx
      · exact nw x hx
      · rw [List.mem_singleton.mp hx]
        rcases o5.nw b List.mem_cons_self with ⟨j, hj⟩ | hz
        · exact s3.fp j b hj
        · by_cases hgx : ∃ j, b ∈ G1 j
          · exact .inl hgx
          · right
            cases hh : H1 b with
            | none => rfl
            | some o =>
              have := s3.kp b o hh fun j hj => hgx ⟨j, hj⟩
              rw [hz] at this; cases this
  · have e : i = ps.length := by omega
    subst e
    refine .inl ⟨hst (Nat.le_refl _), k (.oll acc) env' (.ref l) (l :: as) B' H' G' (done acc env' hI) w' ⟨⟨l, as, rfl, rfl, a'.at_, a'.len, a'.its⟩, a'.nd, a'.nb, fun a ha => ?_, a'.ap⟩ (s1.trans s') .off⟩
    rcases List.mem_cons.mp ha with ha | ha
    · rw [ha]; exact .inr (s1.back hl)
    · rcases nw a ha with ⟨j, hj⟩ | hx
      · exact s1.fp j a hj
      · exact .inr (s1.back hx)⟩
theorem do_lcO {n : Nat} (hc : X.calm = true) (hN : X.N.Nodup) (hi : DI false X tg iter wi dw) (ok : BlkOk X.N X.env.scope scope own)
    (hg : ∀ s H C cl fp, DG (others n (own.map (·.2))) (Blk X scope s H C cl fp) tg (g' s H C cl fp) (dg' s H C cl fp)) (he : ∀ s H C cl fp, DO false (Blk X scope s H C cl fp) elt (te' s H C cl fp) (dq' s H C cl fp))
    (eg : ∀ s H C cl fp, g' s H C cl fp = g' z0 z1 0 [] [] := by intros; rfl) (ee : ∀ s H C cl fp, te' s H C cl fp = te' z0 z1 0 [] [] := by intros; rfl)
    (hs : ∀ x, foldedSetIterable iter X.env x = pure x := by intro _; rfl) :
    DO false X (.ListComp elt [⟨tg, iter, [], 0⟩] scope pos) (tLc wi (g' z0 z1 0 [] []) tYes (te' z0 z1 0 [] []) (own.map (·.2))) (dLcO dw (dg' z0 z1 0 [] []) (dq' z0 z1 0 [] []) n (own.map (·.2))) :=
  ⟨pe_lc hc hN hi.pe ok (fun s H C cl fp => by rw [← eg s H C cl fp]; exact (hg s H C cl fp).pe) (fun s H C cl fp => pts_nil) (fun s H C cl fp => by rw [← ee s H C cl fp]; exact (he s H C cl fp).pe) hs,
   snd_lcO hi.sd (hg z0 z1 0 [] []).sd (he z0 z1 0 [] []).sd⟩
theorem ds_setLcO {i n : Nat} (hc : X.calm = true) (hN : X.N.Nodup) (hy : X.N[i]? = some y) (hyl : X.env.scope.names.lookup y = some .local)
    (hsw : swapsWith (.ListComp elt [⟨tg, iter, [], 0⟩] scope pos) (some (.Name y py)) spos.line X.env = pure true) (hp : i ∉ pn) (hi : DI false X tg iter wi dw) (ok : BlkOk X.N X.env.scope scope own)
    (hg : ∀ s H C cl fp, DG (others n (own.map (·.2))) (Blk X scope s H C cl fp) tg (g' s H C cl fp) (dg' s H C cl fp)) (he : ∀ s H C cl fp, DO false (Blk X scope s H C cl fp) elt (te' s H C cl fp) (dq' s H C cl fp))
    (eg : ∀ s H C cl fp, g' s H C cl fp = g' z0 z1 0 [] [] := by intros; rfl) (ee : ∀ s H C cl fp, te' s H C cl fp = te' z0 z1 0 [] [] := by intros; rfl)
    (hs : ∀ x, foldedSetIterable iter X.env x = pure x := by intro _; rfl) :
    DS pn X (.Assign [.Name y py] (.ListComp elt [⟨tg, iter, [], 0⟩] scope pos) spos) (tAsg (tLc wi (g' z0 z1 0 [] []) tYes (te' z0 z1 0 [] []) (own.map (·.2))) (gName i)) (dPut i (dLcO dw (dg' z0 z1 0 [] []) (dq' z0 z1 0 [] []) n (own.map (·.2)))) :=
  ⟨ps_setLc hc hN hy hyl hsw hi.pe ok (fun s H C cl fp => by rw [← eg s H C cl fp]; exact (hg s H C cl fp).pe) (fun s H C cl fp => pts_nil) (fun s H C cl fp => by rw [← ee s H C cl fp]; exact (he s H C cl fp).pe) hs,
   snd_put hp (snd_lcO hi.sd (hg z0 z1 0 [] []).sd (he z0 z1 0 [] []).sd)⟩
/-! ### i[j][k] = e, of a list of own lists -/
def ixQQ (q : P) (o : Option (Option D)) (f : Int → List (List P) → Prop) : Prop := match q, o with
  | .int k, some (some (.oll pss)) => f k pss
  | _, _ => False
theorem ixQQ_is {q : P} {o : Option (Option D)} {f : Int → List (List P) → Prop} (h : ixQQ q o f) : ∃ k pss, q = .int k ∧ o = some (some (.oll pss)) ∧ f k pss := by
  unfold ixQQ at h
  split at h
  · exact ⟨_, _, rfl, rfl, h⟩
  · exact h.elim
def isInt : P → (Int → Prop) → Prop
  | .int i, f => f i
  | _, _ => False
theorem isInt_is {p : P} {f : Int → Prop} (h : isInt p f) : ∃ i, p = .int i ∧ f i := by
  unfold isInt at h
  split at h
  · exact ⟨_, rfl, h⟩
  · exact h.elim
def dSetII (i : Nat) (dj dk de : dE) : dS := fun Dd env => de env fun p e1 => match e1[i]? with
  | some (some (.oll _)) => dj e1 fun q1 e2 => ixQQ q1 e2[i]? fun k1 pss => ∃ j1 ps, ixN pss.length k1 = some j1 ∧ pss[j1]? = some ps ∧ dk e2 fun q2 e3 => isInt q2 fun k2 => e3[i]? = e2[i]? ∧ ∃ j2, ixN ps.length k2 = some j2 ∧ Dd.nx (e3.set i (some (.oll (pss.set j1 (ps.set j2 p)))))
  | _ => False
theorem snd_setII {i : Nat} (hj : SndE true K tj dj) (hk : SndE true K ti di) (h : SndE m K te de) : SndS pn K (tAsg te (gSub (tOp (rIxL K) (tVar i) tj) ti rSetL)) (dSetII i dj di de) := ⟨fun {B H σ env G Dd D} w q n r k1 k2 => by
  refine h.run w q fun p e1 v2 B1 H1 G1 q1 w1 r1 s1 _ => ?_
  change (match e1[i]? with | some (some (.oll _)) => dj e1 _ | _ => False) at q1
  split at q1
  · rename_i pss0 hd
    obtain ⟨v, h1, a0, as0, hG, rfl, h4, h5, h6⟩ := w1.sl i _ hd
    refine ⟨.ref a0, h1, ?_⟩
    refine hj.run w1 q1 fun qq e2 v3 B2 H2 G2 q2 w2 r2 s2 u2 => ?_
    obtain ⟨rfl, rfl, g2⟩ := u2 rfl
    obtain ⟨kk, pss, rfl, hd2, j1, ps, x1, x2, q2⟩ := ixQQ_is q2
    rw [hd] at hd2
    cases hd2
    obtain ⟨v4, z1, a1, as, z2, z3, z4, z5, z6⟩ := w2.sl i _ hd
    rw [h1] at z1
    cases z1
    cases z3
    rw [hG] at z2
    cases z2
    have hj1 : j1 < as0.length := by rw [h5]; exact (List.getElem?_eq_some_iff.mp x2).1
    have ha1 : as0[j1]? = some as0[j1] := List.getElem?_eq_getElem hj1
    refine ⟨a0, as0.map V.ref, kk, .ref as0[j1], rfl, r2, SqL.of z4, ?_, ?_⟩
    · unfold atI
      rw [List.length_map, h5, x1]
      show (as0.map V.ref)[j1]? = _
      rw [List.getElem?_map, ha1]
      rfl
    refine hk.run w2 q2 fun q3 e3 v5 B3 H3 G3 q4 w3 r3 s3 u3 => ?_
    obtain ⟨rfl, rfl, g3⟩ := u3 rfl
    obtain ⟨k2', rfl, _, j2, y1, q4⟩ := isInt_is q4
    obtain ⟨v6, t1, a3, as3, t2, t3, t4, t5, t6⟩ := w3.sl i _ hd
    rw [h1] at t1
    cases t1
    cases t3
    rw [hG] at t2
    cases t2
    obtain ⟨us, f1, f2⟩ := t6 j1 _ ps ha1 x2
    refine ⟨as0[j1], us, k2', j2, rfl, r3, f1, by rw [f2.length]; exact y1, ?_⟩
    have nd : (a0 :: as0).Nodup := by have := w3.nd i; rw [hG] at this; exact this
    have hm : as0[j1] ∈ as0 := List.getElem_mem hj1
    have rp' : Rp K B3 p v2 := Rp.mono (s2.ex.trans s3.ex) p r1
    obtain ⟨w4, s4⟩ := w3.chg (d' := .oll (pss0.set j1 (ps.set j2 p))) (o := .lst (us.set j2 v2)) (l := as0[j1]) hd h1 (by rw [hG]; exact List.mem_cons_of_mem _ hm) ⟨a0, as0, hG, rfl, by
        rw [upd_ne fun q => (List.nodup_cons.mp nd).1 (by rw [q]; exact hm)]; exact t4, by rw [List.length_set]; exact t5, fun ii b qs g1 g2 => by
        by_cases hii : j1 = ii
        · subst hii
          rw [ha1] at g1
          cases g1
          rw [List.getElem?_set_self (by rw [← t5]; exact hj1)] at g2
          cases g2
          exact ⟨_, upd_same, f2.set rp'⟩
        · rw [List.getElem?_set_ne hii] at g2
          obtain ⟨ws, c1, c2⟩ := t6 ii b qs g1 g2
          refine ⟨ws, ?_, c2⟩
          rw [upd_ne fun q => ?_]
          · exact c1
          · have hlt := (List.getElem?_eq_some_iff.mp g1)
            obtain ⟨hl, he⟩ := hlt
            have : as0[ii] = as0[j1] := by rw [he, q]
            exact hii ((List.getElem_inj (List.nodup_cons.mp nd).2).mp this).symm⟩
    exact n _ σ B3 _ G3 q4 w4 (((s1.trans s2).trans s3).trans s4) .refl
  · exact q1.elim⟩
theorem ds_setII {i : Nat} {tg : Expr} (hg : PE X b ti → PE X c tj → PG X tg (gSub (tOp (rIxL X.K) (tVar i) tj) ti rSetL)) (hj : DE true X c tj dj) (hk : DE true X b ti di) (he : DE false X e te de)
    (hs : swapsWithSole [tg] e pos.line X.env = pure false := by rfl) (hw : swappedStores [tg] e X.env = pure none := by rfl) (h1 : (assignEach [tg] X.env).map (·.2) = [assign tg X.env] := by rfl) :
    DS pn X (.Assign [tg] e pos) (tAsg te (gSub (tOp (rIxL X.K) (tVar i) tj) ti rSetL)) (dSetII i dj di de) := ⟨ps_asg he.pe (hg hk.pe hj.pe) hs hw h1, snd_setII hj.sd hk.sd he.sd⟩
/-! ### [x] * n, where [x] is written -/
theorem oo_rep : OpO K rRep dRep := ⟨fun {B H x y p q QD Q} e rx ry r k => by
  cases p with
  | lst xs =>
    cases q with
    | int nn =>
      obtain ⟨a, vs, rfl, h1, h2⟩ := rx
      obtain ⟨r1, r2, r3, r4⟩ := r
      refine ⟨a, nn, vs, rfl, ry, e a _ h1, r1, r2, by rw [h2.length]; exact r3, fun l hl => ?_⟩
      have g : Gr B H B (upd H l (.lst (List.replicate nn.toNat vs).flatten)) := ⟨Ex.refl _, fun a u k => by rw [upd_ne (ne_of_none k hl)]; exact k, fun a u k => by rw [upd_ne (ne_of_none (e a u k) hl)]; exact e a u k, fun a u k n => n⟩
      exact k _ B _ _ [l] r4 ⟨l, _, rfl, rfl, upd_same, rep_flat h2 _⟩ (by simp) (fun a ha => by rw [List.mem_singleton.mp ha]; exact e.back hl) (fun a ha => by rw [List.mem_singleton.mp ha]; exact hl) g
    | _ => exact r.elim
  | _ => exact r.elim⟩
/-! ### slices -/
def cutP (ps : List P) (lo hi : Option Int) : List P := (ps.drop (HT.sIx ps.length 0 lo)).take (HT.sIx ps.length ps.length hi - HT.sIx ps.length 0 lo)
theorem cut_rp {B : Hp} {ps : List P} {vs : List V} (h : RpA K B ps vs) (lo hi : Option Int) : RpA K B (cutP ps lo hi) (cutV vs lo hi) := by
  unfold cutP cutV
  rw [h.length]
  exact (h.drop _).take _
abbrev dPO := Env → (Option Int → Env → Prop) → Prop
structure SndP (m : Bool) (K : PySem.W.Frag) (to : TO) (dp : dPO) : Prop where
  run : ∀ {B H : Hp} {σ : L2.St} {env : Env} {G : Fp} {QD : Option Int → Env → Prop} {Q : Option Int → Hp → Prop}, Wd K B H σ env G → dp env QD →
    (∀ o env' B' H' G', QD o env' → Wd K B' H' σ env' G' → Stp B H G B' H' G' → Pure m env env' G G' B H B' H' → Q o H') → to σ H Q
structure DPO (m : Bool) (X : Cx) (e : Option Expr) (to : TO) (dp : dPO) : Prop where
  pe : PO X e to
  sd : SndP m X.K to dp
def dNoPart : dPO := fun env Q => Q none env
def dPart (de : dE) : dPO := fun env Q => de env fun p e => isInt p fun i => Q (some i) e
theorem dpo_none : DPO m X none tNoPart dNoPart := ⟨po_none, ⟨fun {B H σ env G QD Q} w q k => k none env B H G q w .refl (.gr (.refl w.ex))⟩⟩
theorem dpo_some (h : DE m X e te de) : DPO m X (some e) (tPart te) (dPart de) := ⟨po_some h.pe, ⟨fun w q k => h.sd.run w q fun p e v B H G q1 w1 r1 s1 u1 => by
  obtain ⟨i, rfl, q1⟩ := isInt_is q1
  exact ⟨i, r1, k _ e B H G q1 w1 s1 u1⟩⟩⟩
def dSlL (de : dE) (lo hi : dPO) : dO := fun env Q => de env fun p e => lo e fun l e1 => hi e1 fun u e2 => match plst p with
  | some ps => Q (.ol (cutP ps l u)) e2
  | none => False
theorem snd_slL {tl th : TO} {lo hi : dPO} (h : SndE m K te de) (hl : SndP m K tl lo) (hu : SndP m K th hi) : SndO m K (tSl (rSlL K) te tl th) (dSlL de lo hi) := ⟨fun {B H σ env G QD Q} w q k =>
  h.run w q fun p e v B1 H1 G1 q1 w1 r1 s1 u1 => hl.run w1 q1 fun l e1 B2 H2 G2 q2 w2 s2 u2 => hu.run w2 q2 fun u e2 B3 H3 G3 q3 w3 s3 u3 => by
    change (match plst p with | some ps => QD (.ol (cutP ps l u)) e2 | none => False) at q3
    split at q3
    · rename_i ps hp
      obtain ⟨a, vs, rfl, h2, h3⟩ := plst_rp r1 hp
      have st := (s1.trans s2).trans s3
      refine ⟨a, vs, rfl, w3.ex.sqL ((s2.ex.trans s3.ex).sqL h2), fun p hp => ?_⟩
      obtain ⟨w4, o4, g4⟩ := own_new w3 hp (st.back hp) (RpA.mono (s2.ex.trans s3.ex) _ (cut_rp h3 l u))
      exact k _ e2 _ [p] B3 _ G3 q3 w4 o4 (st.trans g4.stp) (((u1.trans u2).trans u3).trans (.gr g4))
    · exact q3.elim⟩
theorem do_slL {lo hi : Option Expr} {tl th : TO} {dl dh : dPO} {p2 : Pos} (h : DE m X e te de) (hl : DPO m X lo tl dl) (hu : DPO m X hi th dh) : DO m X (.Subscript e (.Slice lo hi none p2) pos) (tSl (rSlL X.K) te tl th) (dSlL de dl dh) :=
  ⟨pe_slice sl_list h.pe hl.pe hu.pe, snd_slL h.sd hl.sd hu.sd⟩
/-- of a list or a tuple: plain -/
def dSlS (de : dE) (lo hi : dPO) : dE := fun env Q => de env fun p e => lo e fun l e1 => hi e1 fun u e2 => match p with
  | .lst ps => Q (.lst (cutP ps l u)) e2
  | .rol ps => Q (.lst (cutP ps l u)) e2
  | .tup ps => ¬ (HT.sIx ps.length 0 l = 0 ∧ HT.sIx ps.length ps.length u = ps.length) ∧ Q (.tup (cutP ps l u)) e2
  | _ => False
def rSlS (K : PySem.W.Frag) : V → Option Int → Option Int → Hp → VK → Prop := fun x lo hi H Q => rSlL K x lo hi H Q ∨ rSlT K x lo hi H Q
theorem sl_seq : SlR X (rSlS X.K) := SlR.or sl_list sl_tup
theorem snd_slS {tl th : TO} {lo hi : dPO} (h : SndE m K te de) (hl : SndP m K tl lo) (hu : SndP m K th hi) : SndE m K (tSl (rSlS K) te tl th) (dSlS de lo hi) := ⟨fun {B H σ env G QD Q} w q k =>
  h.run w q fun p e v B1 H1 G1 q1 w1 r1 s1 u1 => hl.run w1 q1 fun l e1 B2 H2 G2 q2 w2 s2 u2 => hu.run w2 q2 fun u e2 B3 H3 G3 q3 w3 s3 u3 => by
    have st := (s1.trans s2).trans s3
    have ex := s2.ex.trans s3.ex
    have pu := (u1.trans u2).trans u3
    cases p with
    | lst ps =>
      obtain ⟨a, vs, rfl, h2, h3⟩ := r1
      refine .inl ⟨a, vs, rfl, SqL.of (w3.ex a _ (ex a _ h2)), fun p hp => ?_⟩
      have g4 := gr_new (o := .lst (cutV vs l u)) w3.ex hp
      exact k _ e2 _ _ _ G3 q3 (w3.gr g4) ⟨p, _, rfl, upd_same, RpA.mono (ex.trans g4.b) _ (cut_rp h3 l u)⟩ (st.trans g4.stp) (pu.trans (.gr g4))
    | rol ps =>
      obtain ⟨a, vs, rfl, h2, h3⟩ := r1
      refine .inl ⟨a, vs, rfl, w3.ex.sqL (ex.sqL h2), fun p hp => ?_⟩
      have g4 := gr_new (o := .lst (cutV vs l u)) w3.ex hp
      exact k _ e2 _ _ _ G3 q3 (w3.gr g4) ⟨p, _, rfl, upd_same, RpA.mono (ex.trans g4.b) _ (cut_rp h3 l u)⟩ (st.trans g4.stp) (pu.trans (.gr g4))
    | tup ps =>
      obtain ⟨a, vs, rfl, h2, h3⟩ := r1
      refine .inr ⟨a, vs, rfl, w3.ex.sqT (ex.sqT h2), by rw [h3.length]; exact q3.1, fun p hp => ?_⟩
      have g4 := gr_new (o := .tup (cutV vs l u)) w3.ex hp
      exact k _ e2 _ _ _ G3 q3.2 (w3.gr g4) ⟨p, _, rfl, SqT.of upd_same, RpA.mono (ex.trans g4.b) _ (cut_rp h3 l u)⟩ (st.trans g4.stp) (pu.trans (.gr g4))
    | _ => exact q3.elim⟩
theorem de_slS {lo hi : Option Expr} {tl th : TO} {dl dh : dPO} {p2 : Pos} (h : DE m X e te de) (hl : DPO m X lo tl dl) (hu : DPO m X hi th dh) : DE m X (.Subscript e (.Slice lo hi none p2) pos) (tSl (rSlS X.K) te tl th) (dSlS de dl dh) :=
  ⟨pe_slice sl_seq h.pe hl.pe hu.pe, snd_slS h.sd hl.sd hu.sd⟩
/-! ### calls with keywords -/
def tCat (t tk : TA) : TA := fun σ H Q => t σ H fun vs H1 => tk σ H1 fun zs H2 => Q (vs ++ zs) H2
def dCat (d dk : dA) : dA := fun env Q => d env fun as e => dk e fun bs e2 => Q (as ++ bs) e2
theorem RpX.cat {B : Hp} {σ : L2.St} : ∀ {as bs : List AR} {vs us : List V}, RpX K B σ as vs → RpX K B σ bs us → RpX K B σ (as ++ bs) (vs ++ us)
  | [], _, _, _, h, g => by rw [show _ = ([] : List V) from h]; exact g
  | .inl p :: as, _, _, us, ⟨v, r, e1, e2, e3⟩, g => ⟨v, r ++ us, by rw [e1]; rfl, e2, RpX.cat e3 g⟩
  | .inr i :: as, _, _, us, ⟨v, r, e1, e2, e3⟩, g => ⟨v, r ++ us, by rw [e1]; rfl, e2, RpX.cat e3 g⟩
theorem snd_cat {t tk : TA} {d dk : dA} (h : SndA m K t d) (g : SndA m K tk dk) : SndA m K (tCat t tk) (dCat d dk) := ⟨fun w q k => h.run w q fun as e vs B1 H1 G1 q1 w1 r1 s1 u1 => g.run w1 q1 fun bs e2 us B2 H2 G2 q2 w2 r2 s2 u2 =>
  k _ e2 _ B2 H2 G2 q2 w2 ((RpX.mono s2.ex r1).cat r2) (s1.trans s2) (u1.trans u2)⟩
structure DK (m : Bool) (X : Cx) (kws : List Keyword) (t : TA) (d : dA) : Prop where
  pe : PK X kws t
  sd : SndA m X.K t d
theorem dk_nil : DK m X [] tNil dNil := ⟨pk_nil, snd_nil⟩
theorem dk_cons {nm : Option Str} {kpos : Pos} {kws : List Keyword} {t : TA} {d : dA} (h : DE m X e te de) (g : DK m X kws t d) : DK m X (⟨nm, e, kpos⟩ :: kws) (tCons te t) (dCons de d) := ⟨pk_cons h.pe g.pe, snd_cons h.sd g.sd⟩
/-- what is positional, then the keywords -/
def gK {α : Type} (n k : Nat) (us ws : List α) : List α := if us.length = n ∧ ws.length = k then us ++ ws else []
def dCatK (n k : Nat) (d dk : dA) : dA := fun env Q => d env fun as e => dk e fun bs e2 => (as.length = n ∧ bs.length = k) ∧ Q (as ++ bs) e2
def tCatK (n k : Nat) (t tk : TA) : TA := fun σ H Q => t σ H fun vs H1 => tk σ H1 fun zs H2 => Q (gK n k vs zs) H2
theorem snd_catK {n k : Nat} {t tk : TA} {d dk : dA} (h : SndA m K t d) (g : SndA m K tk dk) : SndA m K (tCatK n k t tk) (dCatK n k d dk) := ⟨fun w q kk => h.run w q fun as e vs B1 H1 G1 q1 w1 r1 s1 u1 => g.run w1 q1 fun bs e2 us B2 H2 G2 q2 w2 r2 s2 u2 => by
  have hl : gK n k vs us = vs ++ us := by
    unfold gK
    rw [if_pos ⟨by rw [r1.len]; exact q2.1.1, by rw [r2.len]; exact q2.1.2⟩]
  show _
  rw [hl]
  exact kk _ e2 _ B2 H2 G2 q2.2 w2 ((RpX.mono s2.ex r1).cat r2) (s1.trans s2) (u1.trans u2)⟩
theorem do_callK {n k : Nat} {fs : FSp} {E : XK} {kws : List Keyword} {e0 : Expr} {es : List Expr} {t tk : TA} {d dk : dA} (h : PA X (e0 :: es) t → PK X kws tk → PE X a (tCallK (spD X.K fs) (gK n k) E t tk)) (ha : DA m X (e0 :: es) t d) (hk : DK m X kws tk dk) :
    DO m X a (tCallK (spD X.K fs) (gK n k) E t tk) (dCallP fs (dCatK n k d dk)) := ⟨h ha.pe hk.pe, by
  have := snd_callP (fs := fs) (E := E) (snd_catK (n := n) (k := k) ha.sd hk.sd)
  refine ⟨fun {B H σ env G QD Q} w q kk => ?_⟩
  have r := this.run w q kk
  show t σ H fun vs H1 => tk σ H1 fun zs H2 => spD X.K fs (gK n k vs zs) H2 Q E
  have r' : t σ H fun vs H1 => tk σ H1 fun zs H2 => spD X.K fs (gK n k vs zs ++ []) H2 Q E := r
  simpa only [List.append_nil] using r'⟩
theorem kb_of {fd : FuncData} {ps ks : List Str} {n k : Nat} (hps : ps.length = n + k) (h0 : 0 < n + k) (h : ∀ us ws : List Value, us.length = n → ws.length = k → bindArgs fd ⟨us, ks.zip ws⟩ = pure (ps.zip (us ++ ws))) : KBinds K fd ps ks (gK n k) (gK n k) where
  to := fun s us ws _ hl => by
    unfold gK at hl ⊢
    split at hl
    · rename_i hc
      rw [if_pos hc]
      exact .of_eq (h us ws hc.1 hc.2)
    · rw [hps] at hl
      simp at hl
      omega
  rel := fun {vs us zs ws} r s => by
    unfold gK
    rw [r.length, s.length]
    split
    · exact r.append s
    · exact .nil
theorem Fun.kbinds {x qual : Str} {st : Stmt} {f : Addr} {fd : FuncData} {ps ks : List Str} {n k : Nat} (F : L2.Fun K x qual st f fd) (hps : ps.length = n + k) (h0 : 0 < n + k)
    (h : ∀ (kV doc pm : Value) (an : Option Addr) (cdv ct : Value) (us ws : List Value), us.length = n → ws.length = k → bindArgs (PySem.W.fnOf x qual (defArgs st) (defBody st) (defScope st) .none kV doc pm an cdv ct) ⟨us, ks.zip ws⟩ = pure (ps.zip (us ++ ws))) : KBinds K fd ps ks (gK n k) (gK n k) := by
  obtain ⟨oc, od, kV, doc, pm, an, cdv, ct, osl, rfl, lk, hcd⟩ := F.ex
  exact kb_of hps h0 (h kV doc pm an cdv ct)
end
end DL
set_option Elab.async false
set_option linter.all false
set_option maxRecDepth 100000
namespace DL
open PySem PySem.Spec L2
/-- a def as a caller has it -/
structure Callee (Pg : Program) (w : World) (K : PySem.W.Frag) (mg : Str → Option Value) (base : Heap) (k : Nat) (x : Str) (f : Addr) (fd : FuncData) (ps : List Str) (fs : FSp) : Prop where
  ok : FnOk Pg w K mg base CX0 k f fd ps (spD K fs)
  g : mg x = some (.ref f)
  kp : PySem.W.keepIn K (.ref f) = true
  b : Binds K fd ps []
structure CalleeK (Pg : Program) (w : World) (K : PySem.W.Frag) (mg : Str → Option Value) (base : Heap) (k : Nat) (x : Str) (f : Addr) (fd : FuncData) (ps ks : List Str) (n j : Nat) (fs : FSp) : Prop where
  ok : FnOk Pg w K mg base CX0 k f fd ps (spD K fs)
  g : mg x = some (.ref f)
  kp : PySem.W.keepIn K (.ref f) = true
  kb : KBinds K fd ps ks (gK n j) (gK n j)

/-! ### a, b = a list or a tuple -/
def gOr (g1 g2 : TG) : TG := fun v σ H Q => g1 v σ H Q ∨ g2 v σ H Q
theorem pg_or {X : Cx} {tg : Expr} {g1 g2 : TG} (h1 : PG X tg g1) (h2 : PG X tg g2) : PG X tg (gOr g1 g2) := ⟨fun pins s σ H v u Q I r h => h.elim (h1.run pins s σ H v u Q I r) (h2.run pins s σ H v u Q I r)⟩
def dgSeq (n : Nat) (gs : dGs) : dG := fun p env Q => match p with
  | .tup ps => ps.length = n ∧ gs ps env Q
  | .lst ps => ps.length = n ∧ gs ps env Q
  | .rol ps => ps.length = n ∧ gs ps env Q
  | _ => False
section
variable {pn : List Nat} {K : PySem.W.Frag} {X : Cx} {a : Expr} {es : List Expr}
theorem snd_gseq {n : Nat} {gs : TGs} {dgs : dGs} (hs : SndGs pn K gs dgs) : SndG pn K (gOr (gTup K n gs) (gUnl K n gs)) (dgSeq n dgs) := ⟨fun {B H σ env G p v QD Q} w r q k => by
  cases p with
  | tup ps =>
    obtain ⟨a, vs, e1, e2, e3⟩ := r
    exact .inl ⟨a, vs, e1, w.ex.sqT e2, e3.length.trans q.1, hs.run w e3 q.2 k⟩
  | lst ps =>
    obtain ⟨a, vs, e1, e2, e3⟩ := r
    exact .inr ⟨a, vs, e1, SqL.of (w.ex a _ e2), e3.length.trans q.1, hs.run w e3 q.2 k⟩
  | rol ps =>
    obtain ⟨a, vs, e1, e2, e3⟩ := r
    exact .inr ⟨a, vs, e1, w.ex.sqL e2, e3.length.trans q.1, hs.run w e3 q.2 k⟩
  | _ => exact q.elim⟩
theorem dg_seq {n : Nat} {gs : TGs} {dgs : dGs} (h : PGs X es gs → PG X a (gTup X.K n gs)) (h2 : PGs X es gs → PG X a (gUnl X.K n gs)) (hs : DGs pn X es gs dgs) : DG pn X a (gOr (gTup X.K n gs) (gUnl X.K n gs)) (dgSeq n dgs) :=
  ⟨pg_or (h hs.pe) (h2 hs.pe), snd_gseq hs.sd⟩
end
/-! ### lists of ints -/
abbrev pI (ns : List Int) : List P := ns.map P.int
theorem toDs_map {α : Type} (f : α → P) (xs : List α) : P.toDs (xs.map f) = xs.map fun x => (f x).toD := by
  induction xs with
  | nil => rfl
  | cons x xs ih => show P.toD (f x) :: P.toDs (xs.map f) = _; rw [ih]; rfl
theorem canLayAll_map {α : Type} {f : α → P} {xs : List α} (h : ∀ x ∈ xs, (f x).toD.canLay0 = true) : PyData.canLayAll0 (P.toDs (xs.map f)) = true := by
  induction xs with
  | nil => rfl
  | cons x xs ih =>
    show (PyData.canLay0 (f x).toD && PyData.canLayAll0 (P.toDs (xs.map f))) = true
    rw [h x List.mem_cons_self, ih fun y hy => h y (List.mem_cons_of_mem _ hy)]
    rfl
theorem depthAll_map {α : Type} {f : α → P} {xs : List α} {n : Nat} (h : ∀ x ∈ xs, (f x).toD.depth ≤ n) : PyData.depthAll (P.toDs (xs.map f)) ≤ n := by
  induction xs with
  | nil => exact Nat.zero_le _
  | cons x xs ih =>
    show max (PyData.depth (f x).toD) (PyData.depthAll (P.toDs (xs.map f))) ≤ n
    exact Nat.max_le.mpr ⟨h x List.mem_cons_self, ih fun y hy => h y (List.mem_cons_of_mem _ hy)⟩
/-- data of a depth, as == takes it -/
structure Shp (p : P) (n : Nat) : Prop where
  c : p.toD.canLay0 = true
  d : p.toD.depth ≤ n
theorem Shp.ok {p : P} {n : Nat} (h : Shp p n) (hn : n ≤ 64 := by decide) : SeqAt.shaped p.toD = true := by
  unfold SeqAt.shaped
  rw [h.c, decide_eq_true (Nat.le_trans h.d hn)]
  rfl
theorem shp_int (i : Int) : Shp (.int i) 0 := ⟨rfl, Nat.le_refl _⟩
theorem shp_bl (i : Bool) : Shp (.bl i) 0 := ⟨rfl, Nat.le_refl _⟩
theorem shp_non : Shp .non 0 := ⟨rfl, Nat.le_refl _⟩
theorem Shp.lst {α : Type} {f : α → P} {xs : List α} {n : Nat} (h : ∀ x ∈ xs, Shp (f x) n) : Shp (.lst (xs.map f)) (n + 1) :=
  ⟨canLayAll_map fun x hx => (h x hx).c, Nat.succ_le_succ (depthAll_map fun x hx => (h x hx).d)⟩
theorem Shp.tup {α : Type} {f : α → P} {xs : List α} {n : Nat} (h : ∀ x ∈ xs, Shp (f x) n) : Shp (.tup (xs.map f)) (n + 1) :=
  ⟨canLayAll_map fun x hx => (h x hx).c, Nat.succ_le_succ (depthAll_map fun x hx => (h x hx).d)⟩
theorem shp_ints (ns : List Int) : Shp (.lst (pI ns)) 1 := .lst fun _ _ => shp_int _
theorem shp_tints (ns : List Int) : Shp (.tup (pI ns)) 1 := .tup fun _ _ => shp_int _
theorem Shp.refl {p : P} {n : Nat} (h : Shp p n) : PyData.eqv p.toD p.toD = true := SeqAt.eqv_refl _ h.c
theorem atI_map {α : Type} {f : α → P} {xs : List α} {j : Nat} (h : j < xs.length) : atI (xs.map f) (j : Int) = some (f xs[j]) := atI_nat (by rw [List.getElem?_map, List.getElem?_eq_getElem h]; rfl)
/-! ### bounds -/
theorem log_lt {i : Int} {n : Nat} (h0 : -(2 ^ n : Int) < i) (h1 : i < 2 ^ n) (hn : 0 < n) : i.natAbs.log2 < n := by
  by_cases h : i.natAbs = 0
  · rw [h]; simpa using hn
  · refine (Nat.log2_lt h).mpr ?_
    have : ((2 ^ n : Nat) : Int) = (2 : Int) ^ n := by push_cast; rfl
    omega
theorem cmul_of {i j : Int} (n m : Nat) (hi : -(2 ^ n : Int) < i ∧ i < 2 ^ n) (hj : -(2 ^ m : Int) < j ∧ j < 2 ^ m) (hn : 0 < n := by decide) (hm : 0 < m := by decide) (h : n + m ≤ 1000000 := by decide) : CMulW i j := by
  have h1 := log_lt hi.1 hi.2 hn
  have h2 := log_lt hj.1 hj.2 hm
  show i.natAbs.log2 + j.natAbs.log2 < 1000000
  omega
theorem cmul64 {i j : Int} (hi : -18446744073709551616 < i ∧ i < 18446744073709551616) (hj : -18446744073709551616 < j ∧ j < 18446744073709551616) : CMulW i j := cmul_of 64 64 hi hj
theorem cdiv_of {i j : Int} (h0 : 0 < j) (h1 : j < 18446744073709551616) : CDivW i j := ⟨h0, Nat.lt_trans (log_lt (n := 64) (by omega) h1 (by decide)) (by decide)⟩
end DL
set_option Elab.async false
set_option linter.all false
set_option maxRecDepth 100000
namespace DL
open PySem PySem.Spec L2
/-! ### a call one of whose arguments is new and the callee's to change -/
abbrev dAF := Env → (List P → D → List P → Env → Prop) → Prop
structure SndAF (K : PySem.W.Frag) (te : TA) (de : dAF) : Prop where
  run : ∀ {B H : Hp} {σ : L2.St} {env : Env} {G : Fp} {QD : List P → D → List P → Env → Prop} {Q : List V → Hp → Prop}, Wd K B H σ env G → de env QD →
    (∀ ps1 d ps2 env' vs1 v vs2 F B' H' G', QD ps1 d ps2 env' → Wd K B' H' σ env' G' → RpA K B' ps1 vs1 → RpA K B' ps2 vs2 → Own K H G B' H' G' d v F → Stp B H G B' H' G' → Q (vs1 ++ v :: vs2) H') → te σ H Q
structure DAF (X : Cx) (e : List Expr) (te : TA) (de : dAF) : Prop where
  pe : PA X e te
  sd : SndAF X.K te de
def dHere (dq : dO) (da : dA) : dAF := fun env Q => dq env fun d e => da e fun as e2 => match prs as with
  | some ps => Q [] d ps e2
  | none => False
def dThere (de : dE) (df : dAF) : dAF := fun env Q => de env fun p e => df e fun ps1 d ps2 e2 => Q (p :: ps1) d ps2 e2
def dCallF (fs : FSp) (df : dAF) : dO := fun env Q => df env fun ps1 d ps2 e => fs (ps1.map D.sh ++ d :: ps2.map D.sh) fun r _ => Q r e
section
variable {m : Bool} {K : PySem.W.Frag} {te : TE} {ta : TA} {de : dE} {dq : dO} {da : dA} {df : dAF} {X : Cx} {a b : Expr} {es : List Expr}
theorem snd_here (h : SndO false K te dq) (g : SndA true K ta da) : SndAF K (tCons te ta) (dHere dq da) := ⟨fun {B H σ env G QD Q} w q k => h.run w q fun d e v F B1 H1 G1 q1 w1 o1 s1 _ =>
  g.run w1 q1 fun as e2 vs B2 H2 G2 q2 w2 r2 s2 u2 => by
    obtain ⟨rfl, rfl, g2⟩ := u2 rfl
    change (match prs as with | some ps => QD [] d ps e2 | none => False) at q2
    cases hp : prs as with
    | none => rw [hp] at q2; exact q2.elim
    | some ps =>
      rw [hp] at q2
      have kp : ∀ x ∈ F, ∀ o, H1 x = some o → H2 x = some o := fun x _ o ho => g2.h x o ho
      refine k [] d ps e2 [] v vs F B2 H2 G2 q2 w2 rfl (RpX.all r2 hp) ⟨RpD.mono g2.b o1.rp fun x hx o ho => kp x hx o ho, o1.nd, fun x hx => ?_, o1.nw, o1.ap⟩ (s1.trans s2)
      obtain ⟨o, ho⟩ := RpD.there o1.rp x hx
      exact g2.n x o ho (o1.nb x hx)⟩
theorem snd_there (h : SndE m K te de) (g : SndAF K ta df) : SndAF K (tCons te ta) (dThere de df) := ⟨fun {B H σ env G QD Q} w q k => h.run w q fun p e v B1 H1 G1 q1 w1 r1 s1 _ =>
  g.run w1 q1 fun ps1 d ps2 e2 vs1 v2 vs2 F B2 H2 G2 q2 w2 r2 r3 o2 s2 => by
    refine k (p :: ps1) d ps2 e2 (v :: vs1) v2 vs2 F B2 H2 G2 q2 w2 ⟨v, vs1, rfl, Rp.mono s2.ex p r1, r2⟩ r3 ⟨o2.rp, o2.nd, o2.nb, fun x hx => ?_, o2.ap⟩ (s1.trans s2)
    rcases o2.nw x hx with ⟨j, hj⟩ | hn
    · exact s1.fp j x hj
    · exact .inr (s1.back hn)⟩
theorem da_here (h : DO false X a te dq) (g : DA true X es ta da) (hs : starEach (a :: es) X.env = (false, eval a X.env) :: starEach es X.env := by rfl) : DAF X (a :: es) (tCons te ta) (dHere dq da) := ⟨pa_cons h.pe g.pe hs, snd_here h.sd g.sd⟩
theorem da_there (h : DE m X a te de) (g : DAF X es ta df) (hs : starEach (a :: es) X.env = (false, eval a X.env) :: starEach es X.env := by rfl) : DAF X (a :: es) (tCons te ta) (dThere de df) := ⟨pa_cons h.pe g.pe hs, snd_there h.sd g.sd⟩
theorem Wd.more {B H : Hp} {σ : L2.St} {env : Env} {G : Fp} (w : Wd K B H σ env G) : Wd K B H (σ ++ [none]) (env ++ [none]) G := by
  have key : ∀ i d, (env ++ [none])[i]? = some (some d) ↔ env[i]? = some (some d) := fun i d => by
    by_cases h : i < env.length
    · rw [List.getElem?_append_left h]
    · rw [List.getElem?_append_right (by omega), List.getElem?_eq_none (l := env) (by omega)]
      constructor
      · intro e
        cases hh : i - env.length with
        | zero => rw [hh] at e; cases e
        | succ n => rw [hh] at e; cases e
      · intro e; cases e
  refine ⟨w.ex, fun i d e => ?_, fun i h => w.no i fun d e => h d ((key i d).mpr e), w.nd, w.dj, w.nb, by rw [List.length_append, List.length_append, w.len]; rfl⟩
  have e' := (key i d).mp e
  obtain ⟨v, h1, h2⟩ := w.sl i d e'
  exact ⟨v, by rw [List.getElem?_append_left (by rw [← w.len]; exact env_lt e')]; exact h1, h2⟩
theorem Wd.less {B H : Hp} {σ : L2.St} {env : Env} {G : Fp} {x : Option V} {env2 : Env} (w : Wd K B H (σ ++ [x]) env2 G) (hl : env.length = σ.length) (h : ∀ i, i ≠ env.length → env2[i]? = env[i]?) : Wd K B H σ env (fun i => if i = env.length then [] else G i) where
  ex := w.ex
  sl := fun i d e => by
    have hi := env_lt e
    obtain ⟨v, h1, h2⟩ := w.sl i d (by rw [h i (by omega)]; exact e)
    rw [List.getElem?_append_left (by omega)] at h1
    exact ⟨v, h1, by rw [if_neg (by omega)]; exact h2⟩
  no := fun i hn => by
    show (if i = env.length then [] else G i) = []
    split
    · rfl
    · rename_i hi
      refine w.no i fun d e => hn d ?_
      rw [h i hi] at e; exact e
  nd := fun i => by
    show (if i = env.length then [] else G i).Nodup
    split
    · exact List.nodup_nil
    · exact w.nd i
  dj := fun i j a h1 h2 => by
    change a ∈ (if i = env.length then [] else G i) at h1
    change a ∈ (if j = env.length then [] else G j) at h2
    split at h1 <;> split at h2
    · cases h1
    · cases h1
    · cases h2
    · exact w.dj i j a h1 h2
  nb := fun i a h1 => by
    change a ∈ (if i = env.length then [] else G i) at h1
    split at h1
    · cases h1
    · exact w.nb i a h1
  len := hl
theorem slots_pl : ∀ (ps : List P) (as : List AR), slots (ps.map Sum.inl ++ as) = slots as
  | [], _ => rfl
  | _ :: ps, as => slots_pl ps as
theorem RpX.pl {B : Hp} {σ : L2.St} {as : List AR} {us : List V} (h : RpX K B σ as us) : ∀ {ps : List P} {vs : List V}, RpA K B ps vs → RpX K B σ (ps.map Sum.inl ++ as) (vs ++ us)
  | [], vs, r => by rw [show vs = [] from r]; exact h
  | p :: ps, vs, ⟨v, r, e, h1, h2⟩ => by rw [e]; exact ⟨v, r ++ us, rfl, h1, RpX.pl h h2⟩
theorem argD_pl (env : Env) (ps : List P) : (ps.map Sum.inl).map (argD env) = ps.map D.sh := by
  rw [List.map_map]; rfl
theorem snd_callF {fs : FSp} {E : XK} (h : SndAF K ta df) : SndO false K (tCall (spD K fs) [] E ta) (dCallF fs df) := ⟨fun {B H σ env G QD Q} w q k => by
  refine h.run w q fun ps1 d ps2 e vs1 v vs2 F B1 H1 G1 q1 w1 r1 r2 o1 s1 => ?_
  show spD K fs (vs1 ++ v :: vs2 ++ []) H1 Q E
  rw [List.append_nil]
  have wm := (w1.more).put (i := e.length) (v := v) (d := d) (F := F) (by rw [List.length_append]; simp) o1.rp o1.nd o1.nb (fun a ha j _ => o1.ap a ha j)
  have eσ : (σ ++ [none]).set e.length (some v) = σ ++ [some v] := by rw [w1.len, List.set_append_right _ _ (Nat.le_refl _), Nat.sub_self]; rfl
  have ee : (e ++ [none]).set e.length (some d) = e ++ [some d] := by rw [List.set_append_right _ _ (Nat.le_refl _), Nat.sub_self]; rfl
  rw [eσ, ee] at wm
  let as : List AR := ps1.map Sum.inl ++ (Sum.inr e.length :: (ps2.map Sum.inl ++ []))
  have hsl : slots as = [e.length] := by
    show slots (ps1.map Sum.inl ++ (Sum.inr e.length :: (ps2.map Sum.inl ++ []))) = _
    rw [slots_pl]
    show e.length :: slots (ps2.map Sum.inl ++ []) = _
    rw [slots_pl]; rfl
  have hget : (e ++ [some d])[e.length]? = some (some d) := by rw [List.getElem?_append_right (Nat.le_refl _), Nat.sub_self]; rfl
  have ok : argsOk as (e ++ [some d]) = true := by
    unfold argsOk
    rw [hsl]
    show (decide ([e.length].Nodup) && (has (e ++ [some d]) e.length && true)) = true
    unfold has
    rw [hget, decide_eq_true (by simp)]
    rfl
  have hx : RpX K B1 (σ ++ [some v]) as (vs1 ++ v :: vs2) := by
    have h2' : RpX K B1 (σ ++ [some v]) (ps2.map Sum.inl ++ []) vs2 := by
      have := RpX.pl (K := K) (B := B1) (σ := σ ++ [some v]) (as := []) (us := []) rfl r2
      rw [List.append_nil vs2] at this
      exact this
    have h0 : RpX K B1 (σ ++ [some v]) (Sum.inr e.length :: (ps2.map Sum.inl ++ [])) (v :: vs2) := ⟨v, vs2, rfl, by rw [w1.len, List.getElem?_append_right (Nat.le_refl _), Nat.sub_self]; rfl, h2'⟩
    exact RpX.pl h0 r1
  have hD : as.map (argD (e ++ [some d])) = ps1.map D.sh ++ d :: ps2.map D.sh := by
    show (ps1.map Sum.inl ++ (Sum.inr e.length :: (ps2.map Sum.inl ++ []))).map (argD (e ++ [some d])) = _
    rw [List.map_append, List.map_cons, List.append_nil, argD_pl, argD_pl, argD_at hget]
  have wa := wm.args hx ok
  rw [hD] at wa
  refine ⟨B1, _, _, _, wa, q1, fun d2 ds v2 F2 B2 H2 G2 q2 w2 o2 s2 => ?_⟩
  obtain ⟨w3, s3, m3⟩ := wm.after hx ok w2 s2
  have w4 := w3.less (env := e) w1.len fun i hi => by
    rw [updS_out (by rw [hsl]; simpa using hi)]
    by_cases hlt : i < e.length
    · rw [List.getElem?_append_left hlt]
    · rw [List.getElem?_append_right (by omega), List.getElem?_eq_none (l := e) (by omega)]
      exact List.getElem?_eq_none (by show 1 ≤ _; omega)
  have m4 : ∀ i x, x ∈ (if i = e.length then [] else backG as (fun j => if j = e.length then F else G1 j) G2 i) → x ∈ G1 i := fun i x hx' => by
    split at hx'
    · cases hx'
    · rename_i hi
      unfold backG at hx'
      rcases find_slot (as := as) (i := i) with ⟨j, h1, h2⟩ | ⟨h1, h2⟩
      · have := mem_slots.mpr ⟨j, h2⟩
        rw [hsl] at this
        exact absurd (List.mem_singleton.mp this) hi
      · rw [h1] at hx'
        change x ∈ (if i = e.length then F else G1 i) at hx'
        rw [if_neg hi] at hx'
        exact hx'
  have nF : ∀ j x, x ∈ argG as (fun j => if j = e.length then F else G1 j) j → x ∈ F := fun j x hx' => by
    obtain ⟨i, h1, h2⟩ := argG_in hx'
    have := mem_slots.mpr ⟨j, h1⟩
    rw [hsl] at this
    have e2 := List.mem_singleton.mp this
    change x ∈ (if i = e.length then F else G1 i) at h2
    rw [if_pos e2] at h2
    exact h2
  have nwF : ∀ x ∈ F, (∃ j, x ∈ G j) ∨ H x = none := o1.nw
  have s4 : Stp B H G B2 H2 (fun i => if i = e.length then [] else backG as (fun j => if j = e.length then F else G1 j) G2 i) := by
    refine ⟨s1.ex.trans s2.ex, fun a o ho hn => ?_, fun i a ha => s1.fp i a (m4 i a ha), fun a o ho hb hn => ?_, fun a o ho => ?_⟩
    · refine s2.kp a o (s1.kp a o ho hn) fun j hj => ?_
      rcases nwF a (nF j a hj) with ⟨i, hi⟩ | hz
      · exact hn i hi
      · rw [ho] at hz; cases hz
    · refine s2.bs a o (s1.kp a o ho hn) (s1.bs a o ho hb hn) fun j hj => ?_
      rcases nwF a (nF j a hj) with ⟨i, hi⟩ | hz
      · exact hn i hi
      · rw [ho] at hz; cases hz
    · obtain ⟨o', h'⟩ := s1.th a o ho
      exact s2.th a o' h'
  refine k d2 e v2 F2 B2 H2 _ q2 w4 ⟨o2.rp, o2.nd, o2.nb, fun x hx' => ?_, fun x hx' i hi => ?_⟩ s4 .off
  · rcases o2.nw x hx' with ⟨j, hj⟩ | hn
    · exact o1.nw x (nF j x hj)
    · exact .inr (s1.back hn)
  · have hg := m4 i x hi
    rcases o2.nw x hx' with ⟨j, hj⟩ | hn
    · exact o1.ap x (nF j x hj) i hg
    · exact w1.off hn i hg⟩
theorem do_callF {fs : FSp} {E : XK} {e0 : Expr} (h : PA X (e0 :: es) ta → PE X a (tCall (spD X.K fs) [] E ta)) (ha : DAF X (e0 :: es) ta df) : DO false X a (tCall (spD X.K fs) [] E ta) (dCallF fs df) := ⟨h ha.pe, snd_callF ha.sd⟩
end
/-! ### two ways that meet again -/
def dMid (a b : dS) : dS := fun Dd env => ∃ M : Env → Prop, a { Dd with nx := M } env ∧ ∀ e, M e → b Dd e
theorem snd_mid {pn : List Nat} {K : PySem.W.Frag} {t u : TS} {dt1 du : dS} (h : SndS pn K t dt1) (g : SndS pn K u du) : SndS pn K (tSeq t u) (dMid dt1 du) := ⟨fun {B H σ env G Dd D} w q n r k1 k2 => by
  obtain ⟨M, q0, qm⟩ := q
  exact h.run (D := { D with nx := u D }) w q0 (fun env' σ' B' H' G' q1 w1 s1 p1 => g.run w1 (qm _ q1) (n.at s1 p1) (r.at s1 p1) (k1.at s1 p1) (k2.at s1 p1)) r k1 k2⟩
theorem dss_mid {pn : List Nat} {X : Cx} {st : Stmt} {rest : List Stmt} {t u : TS} {dt1 du : dS} (h : DS pn X st t dt1) (g : DSs pn X rest u du) : DSs pn X (st :: rest) (tSeq t u) (dMid dt1 du) := ⟨pss_cons h.pe g.pe, snd_mid h.sd g.sd⟩
end DL
set_option Elab.async false
set_option linter.all false
set_option maxRecDepth 100000
set_option maxHeartbeats 2000000
/-! own classes: instances as plain data, made by their __init__, read, called, compared -/
namespace DL
open PySem PySem.Spec L2
section
variable {K : PySem.W.Frag} {B H : Hp}
theorem RpF.look {f : Str} : ∀ {fs : List (Str × P)} {fv : List (Str × V)} {q : P}, RpF K B fs fv → fs.lookup f = some q → ∃ v, fv.lookup f = some v ∧ Rp K B q v
  | [], _, _, _, h => by cases h
  | (g, p) :: fs, _, q, ⟨v, r, e, h1, h2⟩, h => by
    subst e
    by_cases hg : (f == g) = true
    · rw [List.lookup, hg] at h
      cases h
      exact ⟨v, by rw [List.lookup, hg], h1⟩
    · have hg' : (f == g) = false := by simpa using hg
      rw [List.lookup, hg'] at h
      obtain ⟨u, h3, h4⟩ := RpF.look h2 h
      exact ⟨u, by rw [List.lookup, hg']; exact h3, h4⟩
theorem RpF.nolook {f : Str} : ∀ {fs : List (Str × P)} {fv : List (Str × V)}, RpF K B fs fv → fs.lookup f = none → fv.lookup f = none
  | [], _, e, _ => by rw [show _ = [] from e]; rfl
  | (g, p) :: fs, _, ⟨v, r, e, h1, h2⟩, h => by
    subst e
    by_cases hg : (f == g) = true
    · rw [List.lookup, hg] at h; cases h
    · have hg' : (f == g) = false := by simpa using hg
      rw [List.lookup, hg'] at h ⊢
      exact RpF.nolook h2 h
theorem RpF.len : ∀ {fs : List (Str × P)} {fv : List (Str × V)}, RpF K B fs fv → fv.length = fs.length
  | [], _, e => by rw [show _ = [] from e]; rfl
  | (g, p) :: fs, _, ⟨v, r, e, h1, h2⟩ => by rw [e, List.length_cons, List.length_cons, RpF.len h2]
def putFP (f : Str) (p : P) : List (Str × P) → List (Str × P)
  | [] => [(f, p)]
  | (g, x) :: r => if g = f then (g, p) :: r else (g, x) :: putFP f p r
theorem RpF.put {f : Str} {p : P} {v : V} (hp : Rp K B p v) : ∀ {fs : List (Str × P)} {fv : List (Str × V)}, RpF K B fs fv → RpF K B (putFP f p fs) (putF f v fv)
  | [], _, e => by rw [show _ = [] from e]; exact ⟨v, [], rfl, hp, rfl⟩
  | (g, x) :: fs, _, ⟨u, r, e, h1, h2⟩ => by
    subst e
    rw [putFP, putF]
    split
    · exact ⟨v, r, rfl, hp, h2⟩
    · exact ⟨u, _, rfl, h1, RpF.put hp h2⟩
end
/-- an attribute of the class at C's instances -/
structure ClsA (K : PySem.W.Frag) (C : Addr) (f : Str) : Prop where
  c : Cls K C
  n : NoAttr K C f
section
variable {pn : List Nat} {m : Bool} {K : PySem.W.Frag} {te tf : TE} {de df : dE} {ta : TA} {da : dA} {X : Cx} {a b c e o : Expr} {es : List Expr} {f mth x : Str} {pos apos p0 : Pos}

/-! ### e.f -/
def dFld (K : PySem.W.Frag) (f : Str) (de : dE) : dE := fun env Q => de env fun p e => match p with
  | .ins C fs => ClsA K C f ∧ ∃ q, fs.lookup f = some q ∧ Q q e
  | _ => False
theorem snd_fld (h : SndE m K te de) : SndE m K (tFld K te f) (dFld K f de) := ⟨fun {B H σ env G QD Q} w q k => h.run w q fun p e v B1 H1 G1 q1 w1 r1 s1 u1 => by
  cases p with
  | ins C fs =>
    obtain ⟨ca, q, hq, q1⟩ := q1
    obtain ⟨a, dx, fv, rfl, h1, h2⟩ := r1
    obtain ⟨v, hv, rv⟩ := h2.look hq
    exact ⟨a, C, dx, fv, v, rfl, w1.ex a _ h1, ca.c, ca.n, hv, k q e v B1 H1 G1 q1 w1 rv s1 u1⟩
  | _ => exact q1.elim⟩
theorem de_fld (h : DE m X e te de) (hb : attributeBase e f X.env (eval e X.env) = eval e X.env := by rfl) : DE m X (.Attribute e f pos) (tFld X.K te f) (dFld X.K f de) := ⟨pe_fld h.pe hb, snd_fld h.sd⟩
/-- i.f, i an own instance -/
def dFldO (K : PySem.W.Frag) (f : Str) (i : Nat) : dE := fun env Q => match env[i]? with
  | some (some (.oi C fs)) => ClsA K C f ∧ ∃ q, fs.lookup f = some q ∧ Q q env
  | _ => False
theorem snd_fldO {i : Nat} : SndE m K (tFld K (tVar i) f) (dFldO K f i) := ⟨fun {B H σ env G QD Q} w q k => by
  unfold dFldO at q
  split at q
  · rename_i C fs hd
    obtain ⟨ca, p, hp, q⟩ := q
    obtain ⟨v, h1, a, dx, fv, e1, rfl, e3, e4, e5⟩ := w.sl i _ hd
    obtain ⟨u, hu, ru⟩ := e5.look hp
    exact ⟨.ref a, h1, a, C, dx, fv, u, rfl, e3, ca.c, ca.n, hu, k p env u B H G q w ru .refl (.gr (.refl w.ex))⟩
  · exact q.elim⟩
theorem de_fldO (i : Nat) (h : PE X e (tVar i)) (hb : attributeBase e f X.env (eval e X.env) = eval e X.env := by rfl) : DE m X (.Attribute e f pos) (tFld X.K (tVar i) f) (dFldO X.K f i) := ⟨pe_fld h hb, snd_fldO⟩

/-! ### i.f = e, i an own instance -/
def dSetF (K : PySem.W.Frag) (i : Nat) (f : Str) (de : dE) : dS := fun Dd env => de env fun p e => match e[i]? with
  | some (some (.oi C fs)) => ClsA K C f ∧ fs.length < 1000 ∧ Dd.nx (e.set i (some (.oi C (putFP f p fs))))
  | _ => False
theorem snd_setF {i : Nat} (h : SndE m K te de) : SndS pn K (sFld K (tVar i) te f) (dSetF K i f de) := ⟨fun {B H σ env G Dd D} w q n r k1 k2 => h.run w q fun p e v B1 H1 G1 q1 w1 r1 s1 u1 => by
  change (match e[i]? with | some (some (.oi C fs)) => ClsA K C f ∧ fs.length < 1000 ∧ Dd.nx (e.set i (some (.oi C (putFP f p fs)))) | _ => False) at q1
  split at q1
  · rename_i C fs hd
    obtain ⟨ca, hl, q1⟩ := q1
    obtain ⟨v0, h1, a, dx, fv, e1, rfl, e3, e4, e5⟩ := w1.sl i _ hd
    refine ⟨.ref a, h1, a, C, dx, fv, rfl, e3, ca.c, ca.n, by rw [e5.len]; exact hl, ?_⟩
    have ndx : dx ≠ a := fun q => by rw [q, e3] at e4; cases e4
    obtain ⟨w2, s2⟩ := w1.chg (d' := .oi C (putFP f p fs)) (l := a) (o := .ins C dx (putF f v fv)) hd h1 (by rw [e1]; exact List.mem_cons_self) ⟨a, dx, _, e1, rfl, upd_same, by rw [upd_ne ndx]; exact e4, e5.put r1⟩
    exact n _ σ B1 _ G1 q1 w2 (s1.trans s2) .refl
  · exact q1.elim⟩
theorem ds_setF {i : Nat} {tpos : Pos} (ho : PE X o (tVar i)) (he : DE false X e te de) (hs : swapsWith e (some (.Attribute o f tpos)) pos.line X.env = pure false := by rfl) : DS pn X (.Assign [.Attribute o f tpos] e pos) (sFld X.K (tVar i) te f) (dSetF X.K i f de) := ⟨ps_fld ho he.pe hs, snd_setF he.sd⟩

/-! ### i.f = e, the first one of this attribute -/
theorem putF_new {f : Str} {v : V} : ∀ {fs : List (Str × V)}, fs.lookup f = none → putF f v fs = fs ++ [(f, v)]
  | [], _ => rfl
  | (g, x) :: r, h => by
    rw [List.lookup] at h
    split at h
    · cases h
    · rename_i hg
      have hne : ¬ g = f := fun e => by rw [e] at hg; simp at hg
      rw [putF, if_neg hne, putF_new h]; rfl
theorem RpF.append {p : P} {f : Str} {v : V} (hp : Rp K B p v) : ∀ {fs : List (Str × P)} {fv : List (Str × V)}, RpF K B fs fv → RpF K B (fs ++ [(f, p)]) (fv ++ [(f, v)])
  | [], _, e => by rw [show _ = [] from e]; exact ⟨v, [], rfl, hp, rfl⟩
  | (g, x) :: fs, _, ⟨u, r, e, h1, h2⟩ => by
    subst e
    exact ⟨u, r ++ [(f, v)], rfl, h1, RpF.append hp h2⟩
def dSetN (K : PySem.W.Frag) (i : Nat) (f : Str) (de : dE) : dS := fun Dd env => de env fun p e => match e[i]? with
  | some (some (.oi C fs)) => ClsA K C f ∧ fs.lookup f = none ∧ fs.length < 1000 ∧ Dd.nx (e.set i (some (.oi C (fs ++ [(f, p)]))))
  | _ => False
theorem snd_setN {i : Nat} (h : SndE m K te de) : SndS pn K (sFld K (tVar i) te f) (dSetN K i f de) := ⟨fun {B H σ env G Dd D} w q n r k1 k2 => h.run w q fun p e v B1 H1 G1 q1 w1 r1 s1 u1 => by
  change (match e[i]? with | some (some (.oi C fs)) => ClsA K C f ∧ fs.lookup f = none ∧ fs.length < 1000 ∧ Dd.nx (e.set i (some (.oi C (fs ++ [(f, p)])))) | _ => False) at q1
  split at q1
  · rename_i C fs hd
    obtain ⟨ca, hn, hl, q1⟩ := q1
    obtain ⟨v0, h1, a, dx, fv, e1, rfl, e3, e4, e5⟩ := w1.sl i _ hd
    refine ⟨.ref a, h1, a, C, dx, fv, rfl, e3, ca.c, ca.n, by rw [e5.len]; exact hl, ?_⟩
    have ndx : dx ≠ a := fun q => by rw [q, e3] at e4; cases e4
    rw [putF_new (e5.nolook hn)]
    obtain ⟨w2, s2⟩ := w1.chg (d' := .oi C (fs ++ [(f, p)])) (l := a) (o := .ins C dx (fv ++ [(f, v)])) hd h1 (by rw [e1]; exact List.mem_cons_self) ⟨a, dx, _, e1, rfl, upd_same, by rw [upd_ne ndx]; exact e4, e5.append r1⟩
    exact n _ σ B1 _ G1 q1 w2 (s1.trans s2) .refl
  · exact q1.elim⟩
theorem ds_setN {i : Nat} {tpos : Pos} (ho : PE X o (tVar i)) (he : DE false X e te de) (hs : swapsWith e (some (.Attribute o f tpos)) pos.line X.env = pure false := by rfl) : DS pn X (.Assign [.Attribute o f tpos] e pos) (sFld X.K (tVar i) te f) (dSetN X.K i f de) := ⟨ps_fld ho he.pe hs, snd_setN he.sd⟩

/-! ### a call with plain arguments changes nothing that was there -/
theorem plain_wd {H : Hp} {ps : List P} {vs : List V} (ex : Ex B H) (r : RpA K B ps vs) : Wd K B H (vs.map some) ((ps.map D.sh).map some) (fun _ => []) where
  ex := ex
  sl := fun i d e => by
    rw [List.getElem?_map, List.getElem?_map] at e
    cases hp : ps[i]? with
    | none => rw [hp] at e; cases e
    | some p =>
      rw [hp] at e
      cases e
      obtain ⟨v, h1, h2⟩ := r.get hp
      exact ⟨v, by rw [List.getElem?_map, h1]; rfl, rfl, h2⟩
  no := fun _ _ => rfl
  nd := fun _ => List.nodup_nil
  dj := fun _ _ _ h => absurd h List.not_mem_nil
  nb := fun _ _ h => absurd h List.not_mem_nil
  len := by rw [List.length_map, List.length_map, List.length_map, r.length]
theorem callP {fs : FSp} {ps : List P} {vs : List V} {H : Hp} {QD : D → List D → Prop} {Q : VK} {E : XK} (ex : Ex B H) (r : RpA K B ps vs) (h : fs (ps.map D.sh) QD)
    (k : ∀ d ds v F B' H', QD d ds → RpD K B' H' d v F → F.Nodup → (∀ a ∈ F, B' a = none) → (∀ a ∈ F, H a = none) → Gr B H B' H' → Q v H') : spD K fs vs H Q E := by
  refine ⟨B, _, _, _, plain_wd ex r, h, fun d ds v F B2 H2 G2 q2 w2 o2 s2 => ?_⟩
  have nm : ∀ (x : Addr) (i : Nat), x ∉ (fun _ => [] : Fp) i := fun _ _ => List.not_mem_nil
  refine k d ds v F B2 H2 q2 o2.rp o2.nd o2.nb (fun a ha => ?_) ⟨s2.ex, fun x o hx => s2.kp x o hx (nm x), w2.ex, fun x o hx hn => s2.bs x o hx hn (nm x)⟩
  rcases o2.nw a ha with ⟨j, hj⟩ | hn
  · cases hj
  · exact hn
/-- what a call of fs gives, plain -/
def pcall (fs : FSp) (ps : List P) (Q : P → Prop) : Prop := fs (ps.map D.sh) fun d _ => match d with
  | .sh z => Q z
  | _ => False
theorem callPP {fs : FSp} {ps : List P} {vs : List V} {H : Hp} {QD : P → Prop} {Q : VK} {E : XK} (ex : Ex B H) (r : RpA K B ps vs) (h : pcall fs ps QD)
    (k : ∀ z v B' H', QD z → Rp K B' z v → Gr B H B' H' → Q v H') : spD K fs vs H Q E :=
  callP ex r h fun d ds v F B' H' q rp _ _ _ g => by
    cases d with
    | sh z => exact k z v B' H' q rp.2 g
    | _ => exact q.elim
/-- f(..), plain in and out -/
def dCallQ (fs : FSp) (da : dA) : dE := fun env Q => da env fun as e => match prs as with
  | some ps => pcall fs ps fun z => Q z e
  | none => False
theorem snd_callQ {fs : FSp} {E : XK} (h : SndA m K ta da) : SndE m K (tCall (spD K fs) [] E ta) (dCallQ fs da) := ⟨fun {B H σ env G QD Q} w q k => h.run w q fun as e vs B1 H1 G1 q1 w1 r1 s1 u1 => by
  change (match prs as with | some ps => pcall fs ps fun z => QD z e | none => False) at q1
  split at q1
  · rename_i ps hp
    show spD K fs (vs ++ []) H1 Q E
    rw [List.append_nil]
    exact callPP w1.ex (r1.all hp) q1 fun z v B' H' qz rz g => k z e v B' H' G1 qz (w1.gr g) rz (s1.trans g.stp) (u1.trans (.gr g))
  · exact q1.elim⟩
theorem de_call {fs : FSp} {E : XK} {e0 : Expr} (h : PA X (e0 :: es) ta → PE X a (tCall (spD X.K fs) [] E ta)) (ha : DA m X (e0 :: es) ta da) : DE m X a (tCall (spD X.K fs) [] E ta) (dCallQ fs da) := ⟨h ha.pe, snd_callQ ha.sd⟩

/-! ### o.m(..) -/
def dMeth (C : Addr) (mth : Str) (fs : FSp) (de : dE) (da : dA) : dE := fun env Q => de env fun p e => match p with
  | .ins C' fl => C' = C ∧ fl.lookup mth = none ∧ da e fun as e2 => match prs as with
    | some ps => pcall fs (.ins C' fl :: ps) fun z => Q z e2
    | none => False
  | _ => False
theorem snd_meth {C : Addr} {fs : FSp} {E : XK} (h : SndE m K te de) (g : SndA m K ta da) : SndE m K (tMeth C mth (spD K fs) [] E te ta) (dMeth C mth fs de da) := ⟨fun {B H σ env G QD Q} w q k => h.run w q fun p e v B1 H1 G1 q1 w1 r1 s1 u1 => by
  cases p with
  | ins C' fl =>
    obtain ⟨rfl, hm, q1⟩ := q1
    obtain ⟨a, dx, fv, rfl, h1, h2⟩ := id r1
    refine ⟨a, dx, fv, rfl, w1.ex a _ h1, h2.nolook hm, g.run w1 q1 fun as e2 vs B2 H2 G2 q2 w2 r2 s2 u2 => ?_⟩
    change (match prs as with | some ps => pcall fs (.ins C' fl :: ps) fun z => QD z e2 | none => False) at q2
    split at q2
    · rename_i ps hp
      rw [List.append_nil]
      exact callPP (ps := .ins C' fl :: ps) w2.ex ⟨_, vs, rfl, Rp.mono s2.ex _ r1, r2.all hp⟩ q2 fun z v B' H' qz rz gg => k z e2 v B' H' G2 qz (w2.gr gg) rz ((s1.trans s2).trans gg.stp) ((u1.trans u2).trans (.gr gg))
    · exact q2.elim
  | _ => exact q1.elim⟩
/-- a method as a caller has it -/
structure CalleeM (Pg : Program) (w : World) (K : PySem.W.Frag) (mg : Str → Option Value) (base : Heap) (k : Nat) (C : Addr) (mth : Str) (f : Addr) (fd : FuncData) (ps : List Str) (fs : FSp) : Prop where
  ok : FnOk Pg w K mg base CX0 k f fd ps (spD K fs)
  c : Cls K C
  m : Meth K C mth f
  b : Binds K fd ps []
theorem de_meth {C : Addr} {fs : FSp} {E : XK} {e0 : Expr} (h : PE X o te → PA X (e0 :: es) ta → PE X a (tMeth C mth (spD X.K fs) [] E te ta)) (ho : DE m X o te de) (ha : DA m X (e0 :: es) ta da) : DE m X a (tMeth C mth (spD X.K fs) [] E te ta) (dMeth C mth fs de da) := ⟨h ho.pe ha.pe, snd_meth ho.sd ha.sd⟩
theorem de_meth0 {C : Addr} {fs : FSp} {E : XK} (h : PE X o te → PE X a (tMeth C mth (spD X.K fs) [] E te tNil)) (ho : DE m X o te de) : DE m X a (tMeth C mth (spD X.K fs) [] E te tNil) (dMeth C mth fs de dNil) := ⟨h ho.pe, snd_meth ho.sd snd_nil⟩

/-! ### f(..), f an instance -/
def dCallO (C : Addr) (fs : FSp) (de : dE) (da : dA) : dE := fun env Q => de env fun p e => match p with
  | .ins C' fl => C' = C ∧ da e fun as e2 => match prs as with
    | some ps => pcall fs (.ins C' fl :: ps) fun z => Q z e2
    | none => False
  | _ => False
theorem snd_callO {C : Addr} {fs : FSp} {E : XK} (hK : X.K = K) (h : SndE m K te de) (g : SndA m K ta da) : SndE m K (StX.tCallO X C (fun vs H Q E => spD K fs (vs ++ []) H Q E) E te ta) (dCallO C fs de da) := ⟨fun {B H σ env G QD Q} w q k => h.run w q fun p e v B1 H1 G1 q1 w1 r1 s1 u1 => by
  cases p with
  | ins C' fl =>
    obtain ⟨rfl, q1⟩ := q1
    obtain ⟨a, dx, fv, rfl, h1, h2⟩ := id r1
    refine ⟨a, rfl, g.run w1 q1 fun as e2 vs B2 H2 G2 q2 w2 r2 s2 u2 => ?_⟩
    change (match prs as with | some ps => pcall fs (.ins C' fl :: ps) fun z => QD z e2 | none => False) at q2
    split at q2
    · rename_i ps hp
      refine ⟨.inr ⟨dx, fv, w2.ex a _ (s2.ex a _ h1)⟩, ?_⟩
      show spD K fs ((V.ref a :: vs) ++ []) H2 Q E
      rw [List.append_nil]
      exact callPP (ps := .ins C' fl :: ps) w2.ex ⟨_, vs, rfl, Rp.mono s2.ex _ r1, r2.all hp⟩ q2 fun z v B' H' qz rz gg => k z e2 v B' H' G2 qz (w2.gr gg) rz ((s1.trans s2).trans gg.stp) ((u1.trans u2).trans (.gr gg))
    · exact q2.elim
  | _ => exact q1.elim⟩
theorem de_callO {C : Addr} {fs : FSp} {E : XK} {e0 fe : Expr} (h : PE X fe te → PA X (e0 :: es) ta → PE X a (StX.tCallO X C (fun vs H Q E => spD X.K fs (vs ++ []) H Q E) E te ta)) (ho : DE m X fe te de) (ha : DA m X (e0 :: es) ta da) :
    DE m X a (StX.tCallO X C (fun vs H Q E => spD X.K fs (vs ++ []) H Q E) E te ta) (dCallO C fs de da) := ⟨h ho.pe ha.pe, snd_callO rfl ho.sd ha.sd⟩

/-! ### C(..) -/
def dMake (C : Addr) (fs : FSp) (da : dA) : dE := fun env Q => da env fun as e => match prs as with
  | some ps => fs (.oi C [] :: ps.map D.sh) fun d ds => match d, ds with
    | .sh .non, .oi C' fl :: _ => Q (.ins C' fl) e
    | _, _ => False
  | none => False
theorem make_wd {H : Hp} {ps : List P} {vs : List V} {C x dx : Addr} (ex : Ex B H) (hx : H x = none) (hd : H dx = none) (ne : dx ≠ x) (r : RpA K B ps vs) :
    Wd K B (upd (upd H dx (.own x)) x (.ins C dx [])) ((V.ref x :: vs).map some) ((D.oi C [] :: ps.map D.sh).map some) (fun i => if i = 0 then [x, dx] else []) where
  ex := fun a o h => by rw [upd_ne (ne_of_none (ex a o h) hx), upd_ne (ne_of_none (ex a o h) hd)]; exact ex a o h
  sl := fun i d e => by
    cases i with
    | zero =>
      cases e
      exact ⟨.ref x, rfl, x, dx, [], rfl, rfl, upd_same, by rw [upd_ne ne, upd_same], rfl⟩
    | succ i =>
      rw [List.map_cons, List.getElem?_cons_succ, List.getElem?_map, List.getElem?_map] at e
      cases hp : ps[i]? with
      | none => rw [hp] at e; cases e
      | some p =>
        rw [hp] at e
        cases e
        obtain ⟨v, h1, h2⟩ := r.get hp
        exact ⟨v, by rw [List.map_cons, List.getElem?_cons_succ, List.getElem?_map, h1]; rfl, by rw [if_neg (Nat.succ_ne_zero i)], h2⟩
  no := fun i h => by
    cases i with
    | zero => exact absurd rfl (h _)
    | succ i => rfl
  nd := fun i => by
    split
    · exact List.nodup_cons.mpr ⟨fun h => ne (List.mem_singleton.mp h).symm, List.nodup_cons.mpr ⟨List.not_mem_nil, List.nodup_nil⟩⟩
    · exact List.nodup_nil
  dj := fun i j a h1 h2 => by
    split at h1
    · split at h2
      · rename_i e1 e2; rw [e1, e2]
      · cases h2
    · cases h1
  nb := fun i a h => by
    split at h
    · rcases List.mem_cons.mp h with h | h
      · rw [h]; exact ex.back hx
      · rw [List.mem_singleton.mp h]; exact ex.back hd
    · cases h
  len := by rw [List.length_map, List.length_map, List.length_cons, List.length_cons, List.length_map, r.length]
theorem snd_make {C : Addr} {fs : FSp} {E : XK} (h : SndA m K ta da) : SndE m K (tMake C (spD K fs) [] E ta) (dMake C fs da) := ⟨fun {B H σ env G QD Q} w q k => h.run w q fun as e vs B1 H1 G1 q1 w1 r1 s1 u1 => by
  change (match prs as with | some ps => fs (.oi C [] :: ps.map D.sh) (fun d ds => match d, ds with | .sh .non, .oi C' fl :: _ => QD (.ins C' fl) e | _, _ => False) | none => False) at q1
  split at q1
  · rename_i ps hp
    intro x dx hx hd ne
    rw [List.append_nil]
    refine ⟨B1, _, _, _, make_wd w1.ex hx hd ne (r1.all hp), q1, fun d ds v F B2 H2 G2 q2 w2 o2 s2 => ?_⟩
    split at q2
    · rename_i C' fl rest
      refine ⟨o2.rp.2, ?_⟩
      obtain ⟨v0, h0, a, dx', fv, e1, e2, e3, e4, e5⟩ := w2.sl 0 _ rfl
      have ev : V.ref x = v0 := Option.some.inj (Option.some.inj h0)
      rw [← ev] at e2
      cases e2
      -- plain from here on
      have nb : ∀ a ∈ G2 0, B2 a = none := fun a ha => w2.nb 0 a ha
      have fr := frz_gr w2.ex nb
      have hne : ∀ {a : Addr} {o : HO}, H1 a = some o → a ≠ x ∧ a ≠ dx := fun ha => ⟨ne_of_none ha hx, ne_of_none ha hd⟩
      have up : ∀ {a : Addr} {o : HO}, H1 a = some o → upd (upd H1 dx (.own x)) x (.ins C dx []) a = some o := fun ha => by rw [upd_ne (hne ha).1, upd_ne (hne ha).2]; exact ha
      have nG : ∀ {a : Addr} {o : HO}, H1 a = some o → ∀ i, a ∉ (fun i => if i = 0 then [x, dx] else [] : Fp) i := fun {a o} ha i hi => by
        change a ∈ (if i = 0 then [x, dx] else []) at hi
        split at hi
        · rcases List.mem_cons.mp hi with hi | hi
          · exact (hne ha).1 hi
          · exact (hne ha).2 (List.mem_singleton.mp hi)
        · cases hi
      have nF : ∀ {a : Addr} {o : HO}, H1 a = some o → a ∉ G2 0 := fun {a o} ha hi => by
        rcases s2.fp 0 a hi with ⟨j, hj⟩ | hn
        · exact nG ha j hj
        · rw [up ha] at hn; cases hn
      have g : Gr B1 H1 (frzB B2 H2 (G2 0)) H2 := ⟨s2.ex.trans fr.1, fun a o ha => s2.kp a o (up ha) (nG ha), fr.2, fun a o ha hn => by
        unfold frzB
        rw [if_neg (nF ha)]
        exact s2.bs a o (up ha) hn (nG ha)⟩
      refine k _ e _ _ H2 G1 q2 (w1.gr g) ?_ (s1.trans g.stp) (u1.trans (.gr g))
      refine ⟨x, dx', fv, rfl, ?_, RpF.mono fr.1 fl e5⟩
      unfold frzB
      rw [if_pos (by rw [e1]; exact List.mem_cons_self)]
      exact e3
    · exact q2.elim
  · exact q1.elim⟩
/-- a class as a caller has it -/
structure CalleeC (Pg : Program) (w : World) (K : PySem.W.Frag) (mg : Str → Option Value) (base : Heap) (k : Nat) (x : Str) (C f : Addr) (fd : FuncData) (ps : List Str) (fs : FSp) : Prop where
  ok : FnOk Pg w K mg base CX0 k f fd ps (spD K fs)
  m : Mk K C f
  g : mg x = some (.ref C)
  b : Binds K fd ps []
theorem de_make {C : Addr} {fs : FSp} {E : XK} {e0 : Expr} (h : PA X (e0 :: es) ta → PE X a (tMake C (spD X.K fs) [] E ta)) (ha : DA m X (e0 :: es) ta da) : DE m X a (tMake C (spD X.K fs) [] E ta) (dMake C fs da) := ⟨h ha.pe, snd_make ha.sd⟩

/-! ### isinstance of an own class -/
theorem kit_self (K : PySem.W.Frag) (c : Addr) : PySem.W.kitOne K (.ref c) (.ref c) = some true := by
  unfold PySem.W.kitOne
  rw [if_pos (beq_self_eq_true _)]
def dIsiO (K : PySem.W.Frag) : List P → (P → Prop) → Prop
  | [.ins C _, .ob C'], Q => C' = C ∧ C8.InsC K C ∧ Q (.bl true)
  | _, _ => False
theorem cs_isiO : CbS K (fun xs H Q => ∃ C a dx fs, xs = [.ref a, .ref C] ∧ H a = some (.ins C dx fs) ∧ C8.InsC K C ∧ Q (.bl true) H) (dIsiO K) := ⟨fun {B H xs ps QD Q} e r q k => by
  unfold dIsiO at q
  split at q
  · rename_i C fs C'
    obtain ⟨rfl, hi, q⟩ := q
    obtain ⟨v, u, rfl, r1, r2⟩ := two_rp r
    obtain ⟨a, dx, fv, rfl, h1, h2⟩ := r1
    rw [show u = V.ref C' from r2]
    exact ⟨C', a, dx, fv, rfl, e a _ h1, hi, k _ B H _ q rfl (.refl e)⟩
  · exact q.elim⟩
theorem call_isO : CallR X (.builtin "isinstance") (fun xs H Q => ∃ C a dx fs, xs = [.ref a, .ref C] ∧ H a = some (.ins C dx fs) ∧ C8.InsC X.K C ∧ Q (.bl true) H) := by
  intro pins s σ H xs us Q I r h
  obtain ⟨C, a, dx, fs, rfl, ha, c, q⟩ := h
  exact C8.call_isC c pins s σ H _ us Q I r ⟨a, dx, fs, rfl, ha, q⟩

/-! ### operators of an own class -/
/-- x op y: two instances of the class at C -/
def rOwnB (K : PySem.W.Frag) (C : Addr) (sp : Sp) (E : XK) : R2 := fun x y H Q => ∃ a dx vs b dy ws, x = .ref a ∧ y = .ref b ∧ H a = some (.ins C dx vs) ∧ H b = some (.ins C dy ws) ∧ sp [x, y] H Q E
def dOwnB (C : Addr) (fs : FSp) : P → P → (P → Prop) → Prop := fun p q Q => match p, q with
  | .ins C1 f1, .ins C2 f2 => C1 = C ∧ C2 = C ∧ pcall fs [.ins C1 f1, .ins C2 f2] Q
  | _, _ => False
theorem os_ownB {C : Addr} {fs : FSp} {E : XK} : OpS K (rOwnB K C (fun vs H Q E => spD K fs (vs ++ []) H Q E) E) (dOwnB C fs) := ⟨fun {B H x y p q QD Q} ex rx ry r k => by
  unfold dOwnB at r
  split at r
  · rename_i C1 f1 C2 f2
    obtain ⟨rfl, rfl, r⟩ := r
    obtain ⟨a, dx, fv, rfl, h1, h2⟩ := id rx
    obtain ⟨b, dy, gv, rfl, g1, g2⟩ := id ry
    exact ⟨a, dx, fv, b, dy, gv, rfl, rfl, ex a _ h1, ex b _ g1, callPP (ps := [_, _]) ex ⟨_, _, rfl, rx, _, _, rfl, ry, rfl⟩ r fun z v B' H' qz rz g => k v B' H' z qz rz g⟩
  · exact r.elim⟩
/-- the operators' facts of a class -/
structure OwnF (K : PySem.W.Frag) (C g : Addr) (nm : Str) : Prop where
  at_ : PySem.W.findIn K (.ref C) nm = some (some (.ref g))
  fn : PySem.W.isFn K (.ref g) = true
section
variable {CX : CXT} {C g : Addr} {k : Nat} {sp : Sp} {E : XK}
theorem op_ownB {op : Operator} (F : OwnF X.K C g (PySem.dunder op.info.2)) (hc : PySem.W.selfFirst X.K C = true) (f : FnR X.prog X.w X.K X.mg X.base CX k g sp) (hr : Room k X.A) (hx : Passes CX X E) : OpR X (binaryOp op) (rOwnB X.K C sp E) := by
  intro pins s σ H x y v u Q I rx ry h
  obtain ⟨a, dx, vs, b, dy, ws, rfl, rfl, ha, hb, q⟩ := h
  cases (show v = Value.ref a from rx)
  cases (show u = Value.ref b from ry)
  obtain ⟨mA, O, _⟩ := ins_get I.hok ha
  obtain ⟨od, J, _⟩ := O.look
  obtain ⟨mB, O', _⟩ := ins_get I.hok hb
  obtain ⟨od', J', _⟩ := O'.look
  obtain ⟨m, hF⟩ := I.fr
  refine PySem.W.binop_K (op := op) hF I.ok.mod.kin J J'.type hc F.at_ F.fn ?_
  refine wpAny_mono (wpAny_call (run_fnR (us := [.ref a, .ref b]) (vs := [.ref a, .ref b]) f hr hx I (.cons rfl (.cons rfl .nil)) q)) (fun w s' z => ?_) fun _ _ x => x
  obtain ⟨z', H', I', rz, qz⟩ := z
  exact SlX.cmpback rz ⟨z', H', I', rz, qz⟩
theorem op_ownE {op : CmpOp} (hop : ∀ a b, compareOp op a b = richCompare op a b) (F : OwnF X.K C g (cmpInfo op).2.1) (f : FnR X.prog X.w X.K X.mg X.base CX k g sp) (hn : PySem.W.notFirst X.K C (.ref C) = true)
    (hr : Room k X.A) (hx : Passes CX X E) : OpR X (compareOp op) (rOwnB X.K C sp E) := by
  intro pins s σ H x y v u Q I rx ry h
  obtain ⟨a, dx, vs, b, dy, ws, rfl, rfl, ha, hb, q⟩ := h
  cases (show v = Value.ref a from rx)
  cases (show u = Value.ref b from ry)
  obtain ⟨mA, O, _⟩ := ins_get I.hok ha
  obtain ⟨od, J, _⟩ := O.look
  obtain ⟨mB, O', _⟩ := ins_get I.hok hb
  obtain ⟨od', J', _⟩ := O'.look
  obtain ⟨m, hF⟩ := I.fr
  rw [hop]
  refine PySem.W.cmp_K (op := op) (tb := .ref C) hr.units0 hF I.ok.mod.kin J J'.type hn F.at_ F.fn ?_
  refine wpAny_mono (wpAny_call (run_fnR (us := [.ref a, .ref b]) (vs := [.ref a, .ref b]) f hr hx I (.cons rfl (.cons rfl .nil)) q)) (fun w s' z => ?_) fun _ _ x => x
  obtain ⟨z', H', I', rz, qz⟩ := z
  exact SlX.cmpback rz ⟨z', H', I', rz, qz⟩
end
/-! ### list + list, min, max -/
def dCat2 : P → P → (D → Prop) → Prop := fun p q Q => match p, q with
  | .lst xs, .lst ys => xs.length + ys.length ≤ sizeLine ∧ Q (.ol (xs ++ ys))
  | _, _ => False
theorem oo_cat : OpO K rCat dCat2 := ⟨fun {B H x y p q QD Q} e rx ry r k => by
  unfold dCat2 at r
  split at r
  · rename_i xs ys
    obtain ⟨a, vs, rfl, h1, h2⟩ := rx
    obtain ⟨b, us, rfl, g1, g2⟩ := ry
    refine ⟨a, b, vs, us, rfl, rfl, e a _ h1, e b _ g1, by rw [h2.length, g2.length]; exact r.1, fun p hp => ?_⟩
    have g : Gr B H B (upd H p (.lst (vs ++ us))) := ⟨Ex.refl _, fun a u k => by rw [upd_ne (ne_of_none k hp)]; exact k, fun a u k => by rw [upd_ne (ne_of_none (e a u k) hp)]; exact e a u k, fun a u k n => n⟩
    exact k (.ref p) B _ (.ol (xs ++ ys)) [p] r.2 ⟨p, _, rfl, rfl, upd_same, h2.append g2⟩ (by simp) (fun a ha => by rw [List.mem_singleton.mp ha]; exact e.back hp) (fun a ha => by rw [List.mem_singleton.mp ha]; exact hp) g
  · exact r.elim⟩
def dMin2 : List P → (P → Prop) → Prop
  | [.int i, .int j], Q => Q (.int (if j < i then j else i))
  | _, _ => False
theorem cs_min2 : CbS K (fun xs H Q => ∃ i j, xs = [.int i, .int j] ∧ Q (.int (if j < i then j else i)) H) dMin2 := ⟨fun {B H xs ps QD Q} e r q k => by
  unfold dMin2 at q
  split at q
  · obtain ⟨v, u, rfl, rfl, rfl⟩ := two_rp r
    exact ⟨_, _, rfl, k _ B H _ q rfl (.refl e)⟩
  · exact q.elim⟩
def dMax2 : List P → (P → Prop) → Prop
  | [.int i, .int j], Q => Q (.int (if j > i then j else i))
  | _, _ => False
theorem cs_max2 : CbS K (fun xs H Q => ∃ i j, xs = [.int i, .int j] ∧ Q (.int (if j > i then j else i)) H) dMax2 := ⟨fun {B H xs ps QD Q} e r q k => by
  unfold dMax2 at q
  split at q
  · obtain ⟨v, u, rfl, rfl, rfl⟩ := two_rp r
    exact ⟨_, _, rfl, k _ B H _ q rfl (.refl e)⟩
  · exact q.elim⟩
structure CalleeO (Pg : Program) (w : World) (K : PySem.W.Frag) (mg : Str → Option Value) (base : Heap) (k : Nat) (C : Addr) (f : Addr) (fd : FuncData) (ps : List Str) (fs : FSp) : Prop where
  ok : FnOk Pg w K mg base CX0 k f fd ps (spD K fs)
  c : StX.CallO K C f
  b : Binds K fd ps []
structure CalleeP (Pg : Program) (w : World) (K : PySem.W.Frag) (mg : Str → Option Value) (base : Heap) (k : Nat) (C : Addr) (nm : Str) (f : Addr) (fd : FuncData) (ps : List Str) (fs : FSp) : Prop where
  ok : FnOk Pg w K mg base CX0 k f fd ps (spD K fs)
  o : OwnF K C f nm
  b : Binds K fd ps []
/-! ### a, b = x, y -/
def dPar (i j : Nat) (da : dA) : dS := fun Dd env => da env fun as e => match prs as with
  | some [p, q] => inE i e = true ∧ inE j e = true ∧ Dd.nx ((e.set i (some (.sh p))).set j (some (.sh q)))
  | _ => False
theorem snd_par {i j : Nat} (hi : i ∉ pn) (hj : j ∉ pn) (h : SndA m K ta da) : SndS pn K (tPar i j ta) (dPar i j da) := ⟨fun {B H σ env G Dd D} w q n r k1 k2 => h.run w q fun as e vs B1 H1 G1 q1 w1 r1 s1 u1 => by
  change (match prs as with | some [p, q] => inE i e = true ∧ inE j e = true ∧ Dd.nx ((e.set i (some (.sh p))).set j (some (.sh q))) | _ => False) at q1
  split at q1
  · rename_i p q' hp
    obtain ⟨h1, h2, q1⟩ := q1
    obtain ⟨v, u, rfl, rv, ru⟩ := two_rp (r1.all hp)
    refine ⟨v, u, rfl, ?_⟩
    have w2 := w1.putS (inE_lt h1) rv
    have w3 := w2.putS (i := j) (by rw [List.length_set]; exact inE_lt h2) ru
    have s2 := (s1.trans (stp_put (i := i) (F := []) (fun _ h => absurd h List.not_mem_nil))).trans (stp_put (i := j) (F := []) (fun _ h => absurd h List.not_mem_nil))
    exact n _ _ B1 H1 _ q1 w3 s2 (Pin.trans (Pin.set hi) (Pin.set hj))
  · exact q1.elim⟩
theorem ds_par {i j : Nat} {st : Stmt} {e0 e1 : Expr} (h : PA X [e0, e1] ta → PS X st (tPar i j ta)) (ha : DA false X [e0, e1] ta da) (hi : i ∉ pn := by decide) (hj : j ∉ pn := by decide) : DS pn X st (tPar i j ta) (dPar i j da) := ⟨h ha.pe, snd_par hi hj ha.sd⟩
/-- what is never reached -/
theorem ds_never {st : Stmt} : DS pn X st (fun _ _ _ => False) (fun _ _ => False) := ⟨⟨fun pins s σ H D I h => h.elim⟩, ⟨fun w q n r k1 k2 => q.elim⟩⟩
theorem de_never : DE m X e (fun _ _ _ => False) (fun _ _ => False) := ⟨⟨fun pins s σ H Q I h => h.elim⟩, ⟨fun w q k => q.elim⟩⟩
theorem dt_never : DT m X e (fun _ _ _ => False) (fun _ _ => False) := ⟨⟨fun pins s σ H Q I h => h.elim⟩, ⟨fun w q k => q.elim⟩⟩
end
end DL
set_option linter.all false
set_option Elab.async false
/-! needs, in numbers: functions that rise by 0 or by 1 -/
namespace NM
abbrev Pr := Int × Option Int
def con (p : Pr) (k : Int) : Int := if k ≤ p.1 then 0 else match p.2 with
  | none => k - p.1
  | some h => if k < h then k - p.1 else h - p.1
def vsum : List Pr → Int → Int
  | [], _ => 0
  | p :: ps, k => con p k + vsum ps k
def Asc : Int → List Pr → Prop
  | _, [] => True
  | b, (lo, none) :: ps => b < lo ∧ ps = []
  | b, (lo, some h) :: ps => b < lo ∧ lo < h ∧ Asc h ps
def ascB : Option Int → List Pr → Bool
  | _, [] => true
  | none, _ :: _ => false
  | some b, (lo, none) :: ps => decide (b < lo) && ascB none ps
  | some b, (lo, some h) :: ps => decide (b < lo) && decide (lo < h) && ascB (some h) ps
theorem ascB_iff : ∀ (rs : List Pr) (b : Int), ascB (some b) rs = true ↔ Asc b rs
  | [], _ => by simp [ascB, Asc]
  | (lo, none) :: ps, b => by
    cases ps <;> simp [ascB, Asc]
  | (lo, some h) :: ps, b => by
    simp only [ascB, Asc, Bool.and_eq_true, decide_eq_true_eq, ascB_iff ps h, and_assoc]
theorem Asc.mono {b c : Int} (hc : c ≤ b) : ∀ {rs : List Pr}, Asc b rs → Asc c rs
  | [], _ => trivial
  | (lo, none) :: ps, h => ⟨by have := h.1; omega, h.2⟩
  | (lo, some g) :: ps, h => ⟨by have := h.1; omega, h.2.1, h.2.2⟩
theorem con_le {p : Pr} {k : Int} (h : k ≤ p.1) : con p k = 0 := by unfold con; rw [if_pos h]
theorem con_none {lo k : Int} : con (lo, none) k = if k ≤ lo then 0 else k - lo := rfl
theorem con_some {lo h k : Int} : con (lo, some h) k = if k ≤ lo then 0 else if k < h then k - lo else h - lo := rfl
theorem vsum_le : ∀ {rs : List Pr} {b k : Int}, Asc b rs → k ≤ b + 1 → vsum rs k = 0
  | [], _, _, _, _ => rfl
  | (lo, none) :: ps, b, k, h, hk => by
    obtain ⟨h1, rfl⟩ := h
    show con _ _ + 0 = 0
    rw [con_le (by show k ≤ lo; omega)]; rfl
  | (lo, some g) :: ps, b, k, h, hk => by
    obtain ⟨h1, h2, h3⟩ := h
    show con _ _ + vsum ps k = 0
    rw [con_le (by show k ≤ lo; omega), vsum_le h3 (by omega)]; rfl
/-- the sum rises by 0 or 1 -/
theorem lip : ∀ {rs : List Pr} {b k k' : Int}, Asc b rs → k ≤ k' → 0 ≤ vsum rs k' - vsum rs k ∧ vsum rs k' - vsum rs k ≤ k' - k
  | [], _, _, _, _, hk => by simp [vsum]; omega
  | (lo, none) :: ps, b, k, k', h, hk => by
    obtain ⟨h1, rfl⟩ := h
    simp only [vsum, con_none]
    split <;> split <;> omega
  | (lo, some g) :: ps, b, k, k', h, hk => by
    obtain ⟨h1, h2, h3⟩ := h
    simp only [vsum, con_some]
    by_cases c1 : k' ≤ g
    · rw [vsum_le h3 (show k' ≤ g + 1 by omega), vsum_le h3 (show k ≤ g + 1 by omega)]
      split <;> split <;> (try split) <;> (try split) <;> omega
    · by_cases c2 : k ≤ g
      · have e := lip h3 (show g ≤ k' by omega)
        rw [vsum_le h3 (show g ≤ g + 1 by omega)] at e
        rw [vsum_le h3 (show k ≤ g + 1 by omega)]
        split <;> split <;> (try split) <;> (try split) <;> omega
      · have e := lip h3 hk
        rw [if_neg (by omega), if_neg (by omega), if_neg (by omega), if_neg (by omega)]
        omega
theorem vsum_nn {rs : List Pr} {b k : Int} (h : Asc b rs) : 0 ≤ vsum rs k := by
  by_cases hk : k ≤ b + 1
  · rw [vsum_le h hk]; exact Int.le_refl _
  · have := (lip h (show b + 1 ≤ k by omega)).1
    rw [vsum_le h (Int.le_refl _)] at this
    omega
/-- the value for k -/
def val (s : Int) (rs : List Pr) (k : Int) : Int := s + vsum rs k
/-- the place of the flat with a number -/
def flatF : List Pr → Int → Int → Option Int
  | [], b, n => some (b + n)
  | (lo, none) :: ps, b, n => if n < lo - b then some (b + n) else none
  | (lo, some h) :: ps, b, n => if n < lo - b then some (b + n) else flatF ps h (n - (lo - b))
def Opn (rs : List Pr) (lo : Int) : Prop := ∃ pre, rs = pre ++ [(lo, none)]
theorem flat_some : ∀ {rs : List Pr} {b n x : Int}, Asc (b - 1) rs → 0 ≤ n → flatF rs b n = some x → b ≤ x ∧ (x - b) - vsum rs x = n ∧ vsum rs (x + 1) = vsum rs x
  | [], b, n, x, _, hn, e => by
    cases e
    exact ⟨by omega, by simp only [vsum]; omega, rfl⟩
  | (lo, none) :: ps, b, n, x, h, hn, e => by
    obtain ⟨h1, rfl⟩ := h
    rw [flatF] at e
    split at e
    · cases e
      simp only [vsum, con_none]
      rw [if_pos (by omega), if_pos (by omega)]
      exact ⟨by omega, by omega, rfl⟩
    · cases e
  | (lo, some g) :: ps, b, n, x, h, hn, e => by
    obtain ⟨h1, h2, h3⟩ := h
    rw [flatF] at e
    split at e
    · cases e
      simp only [vsum, con_some]
      rw [if_pos (by omega), if_pos (by omega), vsum_le h3 (by omega), vsum_le h3 (by omega)]
      exact ⟨by omega, by omega, rfl⟩
    · obtain ⟨g1, g2, g3⟩ := flat_some (h3.mono (show g - 1 ≤ g by omega)) (by omega) e
      simp only [vsum, con_some]
      rw [if_neg (by omega), if_neg (by omega), if_neg (by omega), if_neg (by omega), g3]
      exact ⟨by omega, by omega, rfl⟩
theorem flat_none : ∀ {rs : List Pr} {b n : Int}, Asc (b - 1) rs → 0 ≤ n → flatF rs b n = none → ∃ lo, Opn rs lo ∧ b ≤ lo ∧ (lo - b) - vsum rs lo ≤ n
  | [], b, n, _, hn, e => by cases e
  | (lo, none) :: ps, b, n, h, hn, e => by
    obtain ⟨h1, rfl⟩ := h
    rw [flatF] at e
    split at e
    · cases e
    · refine ⟨lo, ⟨[], rfl⟩, by omega, ?_⟩
      simp only [vsum, con_none]
      rw [if_pos (Int.le_refl _)]
      omega
  | (lo, some g) :: ps, b, n, h, hn, e => by
    obtain ⟨h1, h2, h3⟩ := h
    rw [flatF] at e
    split at e
    · cases e
    · obtain ⟨l, ⟨pre, hp⟩, g2, g3⟩ := flat_none (h3.mono (show g - 1 ≤ g by omega)) (by omega) e
      refine ⟨l, ⟨(lo, some g) :: pre, by rw [hp]; rfl⟩, by omega, ?_⟩
      simp only [vsum, con_some]
      rw [if_neg (by omega), if_neg (by omega)]
      omega
theorem opn_lt : ∀ {rs : List Pr} {b lo : Int}, Asc b rs → Opn rs lo → b < lo
  | [], _, _, _, ⟨pre, h⟩ => by cases pre <;> cases h
  | (l, none) :: ps, b, lo, h, ⟨pre, e⟩ => by
    obtain ⟨h1, rfl⟩ := h
    cases pre with
    | nil => cases e; exact h1
    | cons x pre => exact absurd (List.cons.inj e).2.symm (by simp)
  | (l, some g) :: ps, b, lo, h, ⟨pre, e⟩ => by
    obtain ⟨h1, h2, h3⟩ := h
    cases pre with
    | nil => cases e
    | cons x pre =>
      obtain ⟨e1, e2⟩ := List.cons.inj e
      have := opn_lt h3 ⟨pre, e2⟩
      omega
/-- behind an open low all the way up -/
theorem opn_from : ∀ {rs : List Pr} {b lo k : Int}, Asc b rs → Opn rs lo → lo ≤ k → vsum rs k = vsum rs lo + (k - lo)
  | [], _, _, _, _, ⟨pre, h⟩, _ => by cases pre <;> cases h
  | (l, none) :: ps, b, lo, k, h, ⟨pre, e⟩, hk => by
    obtain ⟨h1, rfl⟩ := h
    cases pre with
    | nil =>
      cases e
      simp only [vsum, con_none]
      rw [if_pos (Int.le_refl _)]
      split <;> omega
    | cons x pre => exact absurd (List.cons.inj e).2.symm (by simp)
  | (l, some g) :: ps, b, lo, k, h, ⟨pre, e⟩, hk => by
    obtain ⟨h1, h2, h3⟩ := h
    cases pre with
    | nil => cases e
    | cons x pre =>
      obtain ⟨e1, e2⟩ := List.cons.inj e
      have ho : Opn ps lo := ⟨pre, e2⟩
      have hg : g < lo := opn_lt h3 ho
      have := opn_from h3 ho hk
      simp only [vsum, con_some]
      rw [if_neg (by omega), if_neg (by omega), if_neg (by omega), if_neg (by omega)]
      omega
def opnB (rs : List Pr) : Bool := match rs.getLast? with
  | some (_, none) => true
  | _ => false
theorem opn_iff {rs : List Pr} {lo : Int} : rs.getLast? = some (lo, none) ↔ Opn rs lo := by
  constructor
  · intro h
    obtain ⟨ys, e⟩ := List.getLast?_eq_some_iff.mp h
    exact ⟨ys, e⟩
  · rintro ⟨ys, rfl⟩
    rw [List.getLast?_append]; rfl
def mxI (a b : Int) : Int := if a > b then a else b
/-- the law's bound -/
def bndF : Int → List Pr → Int
  | top, [] => top
  | top, (lo, none) :: _ => mxI lo top
  | top, (lo, some h) :: ps => bndF (top + h - lo) ps
/-- the greatest value of a closed one -/
def wsum : List Pr → Int
  | [] => 0
  | (lo, none) :: ps => wsum ps
  | (lo, some h) :: ps => (h - lo) + wsum ps
theorem wsum_nn : ∀ {rs : List Pr}, (∀ p ∈ rs, ∀ h, p.2 = some h → p.1 ≤ h) → 0 ≤ wsum rs
  | [], _ => Int.le_refl _
  | (l, none) :: ps, g => by
    have := wsum_nn (rs := ps) fun p hp => g p (List.mem_cons_of_mem _ hp)
    simpa [wsum] using this
  | (l, some k) :: ps, g => by
    have := wsum_nn (rs := ps) fun p hp => g p (List.mem_cons_of_mem _ hp)
    have h2 := g _ List.mem_cons_self k rfl
    simp only [wsum] at *
    omega
theorem bnd_opn : ∀ {rs : List Pr} {b s lo : Int}, Asc b rs → Opn rs lo → bndF s rs = mxI lo (s + vsum rs lo)
  | [], _, _, _, _, ⟨pre, h⟩ => by cases pre <;> cases h
  | (l, none) :: ps, b, s, lo, h, ⟨pre, e⟩ => by
    obtain ⟨h1, rfl⟩ := h
    cases pre with
    | nil =>
      cases e
      simp [bndF, vsum, con_none, mxI]
    | cons x pre => exact absurd (List.cons.inj e).2.symm (by simp)
  | (l, some g) :: ps, b, s, lo, h, ⟨pre, e⟩ => by
    obtain ⟨h1, h2, h3⟩ := h
    cases pre with
    | nil => cases e
    | cons x pre =>
      obtain ⟨e1, e2⟩ := List.cons.inj e
      have ho : Opn ps lo := ⟨pre, e2⟩
      have hg := opn_lt h3 ho
      simp only [bndF, vsum, con_some]
      rw [if_neg (by omega), if_neg (by omega), bnd_opn h3 ho]
      have : s + g - l + vsum ps lo = s + (g - l + vsum ps lo) := by omega
      rw [this]
theorem bnd_closed : ∀ {rs : List Pr} {b s k : Int}, Asc b rs → (∀ lo, ¬ Opn rs lo) → s + vsum rs k ≤ bndF s rs
  | [], _, _, _, _, _ => by simp [vsum, bndF]
  | (l, none) :: ps, b, s, k, h, n => by
    obtain ⟨h1, rfl⟩ := h
    exact absurd ⟨[], rfl⟩ (n l)
  | (l, some g) :: ps, b, s, k, h, n => by
    obtain ⟨h1, h2, h3⟩ := h
    have := bnd_closed (s := s + g - l) (k := k) h3 fun lo ⟨pre, e⟩ => n lo ⟨(l, some g) :: pre, by rw [e]; rfl⟩
    simp only [bndF, vsum, con_some]
    split <;> (try split) <;> omega
theorem wsum_ge : ∀ {rs : List Pr} {b k : Int}, Asc b rs → (∀ lo, ¬ Opn rs lo) → vsum rs k ≤ wsum rs
  | [], _, _, _, _ => Int.le_refl _
  | (l, none) :: ps, b, k, h, n => by
    obtain ⟨h1, rfl⟩ := h
    exact absurd ⟨[], rfl⟩ (n l)
  | (l, some g) :: ps, b, k, h, n => by
    obtain ⟨h1, h2, h3⟩ := h
    have := wsum_ge (k := k) h3 fun lo ⟨pre, e⟩ => n lo ⟨(l, some g) :: pre, by rw [e]; rfl⟩
    simp only [wsum, vsum, con_some]
    split <;> (try split) <;> omega
/-- the values at the lows -/
def lowsF : Int → List Pr → List Int
  | _, [] => []
  | v, (lo, none) :: ps => v :: lowsF v ps
  | v, (lo, some h) :: ps => v :: lowsF (v + h - lo) ps
theorem lowsF_len : ∀ (rs : List Pr) (v : Int), (lowsF v rs).length = rs.length
  | [], _ => rfl
  | (lo, none) :: ps, v => by simp [lowsF, lowsF_len ps]
  | (lo, some h) :: ps, v => by simp [lowsF, lowsF_len ps]
theorem lowsF_snoc : ∀ (rs : List Pr) (v : Int) (p : Pr), lowsF v (rs ++ [p]) = lowsF v rs ++ [v + wsum rs]
  | [], v, (lo, none) => by simp [lowsF, wsum]
  | [], v, (lo, some h) => by simp [lowsF, wsum]
  | (lo, none) :: ps, v, p => by simp [lowsF, wsum, lowsF_snoc ps]
  | (lo, some h) :: ps, v, p => by
    simp [lowsF, wsum, lowsF_snoc ps]
    omega
theorem wsum_snoc : ∀ (rs : List Pr) (p : Pr), wsum (rs ++ [p]) = wsum rs + (match p.2 with | none => 0 | some h => h - p.1)
  | [], (lo, none) => rfl
  | [], (lo, some h) => by simp [wsum]
  | (lo, none) :: ps, p => by simp [wsum, wsum_snoc ps]
  | (lo, some h) :: ps, p => by simp [wsum, wsum_snoc ps]; omega
theorem asc_lt : ∀ {rs : List Pr} {b : Int} {n : Nat} {p : Pr}, Asc b rs → rs[n]? = some p → b < p.1
  | [], _, _, _, _, h => by simp at h
  | (lo, none) :: ps, b, 0, p, h, hp => by cases hp; exact h.1
  | (lo, none) :: ps, b, n + 1, p, h, hp => by obtain ⟨h1, rfl⟩ := h; simp at hp
  | (lo, some g) :: ps, b, 0, p, h, hp => by cases hp; exact h.1
  | (lo, some g) :: ps, b, n + 1, p, h, hp => by
    have := asc_lt h.2.2 hp
    have := h.1
    have := h.2.1
    omega
/-- the value by the pair that k stands at -/
theorem val_at : ∀ {rs : List Pr} {b v k : Int} {n : Nat} {p : Pr}, Asc b rs → rs[n]? = some p → p.1 ≤ k → (∀ q, rs[n + 1]? = some q → k < q.1) →
    ∃ w, (lowsF v rs)[n]? = some w ∧ w + (match p.2 with | none => k | some h => if h < k then h else k) - p.1 = v + vsum rs k
  | [], _, _, _, _, _, _, h, _, _ => by simp at h
  | (lo, none) :: ps, b, v, k, n, p, h, hp, hk, hq => by
    obtain ⟨h1, rfl⟩ := h
    cases n with
    | zero =>
      cases hp
      refine ⟨v, rfl, ?_⟩
      simp only [vsum, con_none]
      simp only at hk
      split <;> omega
    | succ n => simp at hp
  | (lo, some g) :: ps, b, v, k, 0, p, h, hp, hk, hq => by
    obtain ⟨h1, h2, h3⟩ := h
    cases hp
    refine ⟨v, rfl, ?_⟩
    have hz : vsum ps k = 0 := by
      cases ps with
      | nil => rfl
      | cons q ps =>
        obtain ⟨ql, qh⟩ := q
        have hq' := hq _ rfl
        simp only at hq'
        cases qh with
        | none =>
          obtain ⟨g1, rfl⟩ := h3
          simp only [vsum, con_none]
          rw [if_pos (by omega)]; rfl
        | some m =>
          obtain ⟨g1, g2, g3⟩ := h3
          simp only [vsum, con_some]
          rw [if_pos (by omega), vsum_le g3 (by omega)]; rfl
    simp only [vsum, con_some, hz]
    simp only at hk
    split <;> split <;> (try split) <;> omega
  | (lo, some g) :: ps, b, v, k, n + 1, p, h, hp, hk, hq => by
    obtain ⟨h1, h2, h3⟩ := h
    obtain ⟨w, e1, e2⟩ := val_at (v := v + g - lo) h3 hp hk hq
    have hg : g < p.1 := asc_lt h3 hp
    refine ⟨w, e1, ?_⟩
    rw [e2]
    simp only [vsum, con_some]
    rw [if_neg (by omega), if_neg (by omega)]
    omega
theorem asc_sorted : ∀ {rs : List Pr} {b : Int} {i j : Nat} {p q : Pr}, Asc b rs → rs[i]? = some p → rs[j]? = some q → i < j → p.1 < q.1
  | [], _, _, _, _, _, _, h, _, _ => by simp at h
  | (lo, none) :: ps, b, i, j, p, q, h, hp, hq, hij => by
    obtain ⟨h1, rfl⟩ := h
    cases j with
    | zero => omega
    | succ j => simp at hq
  | (lo, some g) :: ps, b, 0, j + 1, p, q, h, hp, hq, hij => by
    cases hp
    have := asc_lt h.2.2 hq
    have := h.2.1
    show lo < q.1
    omega
  | (lo, some g) :: ps, b, i + 1, j + 1, p, q, h, hp, hq, hij => asc_sorted h.2.2 hp hq (by omega)
theorem vsum_lt : ∀ {rs : List Pr} {k : Int}, (∀ (j : Nat) p, rs[j]? = some p → k < p.1) → vsum rs k = 0
  | [], _, _ => rfl
  | p :: ps, k, h => by
    have h0 := h 0 p rfl
    have e := vsum_lt (rs := ps) (k := k) fun j q hq => h (j + 1) q hq
    simp only [vsum, e]
    rw [con_le (by omega)]; rfl
theorem closed_some : ∀ {rs : List Pr} {b : Int}, Asc b rs → (∀ lo, ¬ Opn rs lo) → ∀ p ∈ rs, ∃ h, p.2 = some h
  | [], _, _, _, _, h => by cases h
  | (l, none) :: ps, b, h, n, p, hp => by
    obtain ⟨h1, rfl⟩ := h
    exact absurd ⟨[], rfl⟩ (n l)
  | (l, some g) :: ps, b, h, n, p, hp => by
    rcases List.mem_cons.mp hp with e | hp
    · rw [e]; exact ⟨g, rfl⟩
    · exact closed_some h.2.2 (fun lo ⟨pre, e⟩ => n lo ⟨(l, some g) :: pre, by rw [e]; rfl⟩) p hp
def width (p : Pr) : Int := match p.2 with | none => 0 | some h => h - p.1
theorem wsum_eq : ∀ rs : List Pr, wsum rs = (rs.map width).sum
  | [] => rfl
  | (lo, none) :: ps => by simp [wsum, width, wsum_eq ps]
  | (lo, some h) :: ps => by simp [wsum, width, wsum_eq ps]
theorem take_snoc {α : Type} {xs : List α} {i : Nat} {x : α} (h : xs[i]? = some x) : xs.take (i + 1) = xs.take i ++ [x] := by
  rw [List.take_add_one, h]; rfl
theorem drop_cons {α : Type} {xs : List α} {i : Nat} {x : α} (h : xs[i]? = some x) : xs.drop i = x :: xs.drop (i + 1) := by
  obtain ⟨hi, e⟩ := List.getElem?_eq_some_iff.mp h
  rw [List.drop_eq_getElem_cons hi, e]
/-! ### greatest and least -/
/-- x is the last with val x ≥ x -/
def IsG (s : Int) (rs : List Pr) (x : Int) : Prop := 0 ≤ x ∧ x ≤ val s rs x ∧ val s rs (x + 1) < x + 1
/-- x is the first with val x ≤ x -/
def IsL (s : Int) (rs : List Pr) (x : Int) : Prop := 0 ≤ x ∧ val s rs x ≤ x ∧ (0 < x → x - 1 < val s rs (x - 1))
theorem val_lip {s b k k' : Int} {rs : List Pr} (h : Asc b rs) (hk : k ≤ k') : val s rs k ≤ val s rs k' ∧ val s rs k' ≤ val s rs k + (k' - k) := by
  have := lip h hk
  unfold val
  omega
theorem IsG.uniq {s b x y : Int} {rs : List Pr} (h : Asc b rs) (a : IsG s rs x) (c : IsG s rs y) : x = y := by
  obtain ⟨a0, a1, a2⟩ := a
  obtain ⟨c0, c1, c2⟩ := c
  by_cases h1 : x < y
  · have := (val_lip (s := s) h (show x + 1 ≤ y by omega)).2; omega
  · by_cases h2 : y < x
    · have := (val_lip (s := s) h (show y + 1 ≤ x by omega)).2; omega
    · omega
theorem IsL.uniq {s b x y : Int} {rs : List Pr} (h : Asc b rs) (a : IsL s rs x) (c : IsL s rs y) : x = y := by
  obtain ⟨a0, a1, a2⟩ := a
  obtain ⟨c0, c1, c2⟩ := c
  by_cases h1 : x < y
  · have := (val_lip (s := s) h (show x ≤ y - 1 by omega)).2; have := c2 (by omega); omega
  · by_cases h2 : y < x
    · have := (val_lip (s := s) h (show y ≤ x - 1 by omega)).2; have := a2 (by omega); omega
    · omega
theorem flat_isG {s x : Int} {rs : List Pr} (h : Asc (-1) rs) (hs : 0 ≤ s) (e : flatF rs 0 s = some x) : IsG s rs x := by
  obtain ⟨h1, h2, h3⟩ := flat_some (b := 0) h hs e
  unfold IsG val
  rw [h3]
  omega
/-- the least number with val x ≤ x -/
def leastF (s : Int) (rs : List Pr) : Option Int := if s = 0 then some 0 else (flatF rs 0 (s - 1)).map (· + 1)
theorem least_isL {s x : Int} {rs : List Pr} (h : Asc (-1) rs) (hs : 0 ≤ s) (e : leastF s rs = some x) : IsL s rs x := by
  unfold leastF at e
  split at e
  · cases e
    rename_i h0
    subst h0
    refine ⟨Int.le_refl _, ?_, fun z => absurd z (by omega)⟩
    unfold val
    rw [vsum_le h (by omega)]; omega
  · cases ef : flatF rs 0 (s - 1) with
    | none => rw [ef] at e; cases e
    | some y =>
      rw [ef] at e
      cases e
      obtain ⟨h1, h2, h3⟩ := flat_some (b := 0) h (by omega) ef
      show IsL s rs (y + 1)
      unfold IsL val
      rw [h3]
      refine ⟨by omega, by omega, fun _ => ?_⟩
      rw [show y + 1 - 1 = y by omega]
      omega
theorem all_ge {s b lo k : Int} {rs : List Pr} (h : Asc b rs) (ho : Opn rs lo) (hl : lo ≤ val s rs lo) : k ≤ val s rs k := by
  by_cases hk : lo ≤ k
  · have := opn_from h ho hk
    unfold val at *
    omega
  · have := (val_lip (s := s) h (show k ≤ lo by omega)).2
    omega
theorem all_gt {s b lo k : Int} {rs : List Pr} (h : Asc b rs) (ho : Opn rs lo) (hl : lo < val s rs lo) : k < val s rs k := by
  by_cases hk : lo ≤ k
  · have := opn_from h ho hk
    unfold val at *
    omega
  · have := (val_lip (s := s) h (show k ≤ lo by omega)).2
    omega
theorem flatNone_ge {s : Int} {rs : List Pr} (h : Asc (-1) rs) (hs : 0 ≤ s) (e : flatF rs 0 s = none) (k : Int) : k ≤ val s rs k := by
  obtain ⟨lo, ho, h0, h1⟩ := flat_none (b := 0) h hs e
  exact all_ge h ho (by unfold val; omega)
theorem leastNone_gt {s : Int} {rs : List Pr} (h : Asc (-1) rs) (hs : 0 ≤ s) (e : leastF s rs = none) (k : Int) : k < val s rs k := by
  unfold leastF at e
  split at e
  · cases e
  · cases ef : flatF rs 0 (s - 1) with
    | some y => rw [ef] at e; cases e
    | none =>
      obtain ⟨lo, ho, h0, h1⟩ := flat_none (b := 0) h (by omega) ef
      exact all_gt h ho (by unfold val; omega)
/-- below the last, all are at most their value -/
theorem IsG.below {s b x k : Int} {rs : List Pr} (h : Asc b rs) (a : IsG s rs x) (hk : k ≤ x) : k ≤ val s rs k := by
  obtain ⟨a0, a1, a2⟩ := a
  have := (val_lip (s := s) h hk).2
  omega
theorem IsL.above {s b x k : Int} {rs : List Pr} (h : Asc b rs) (a : IsL s rs x) (hk : x ≤ k) : val s rs k ≤ k := by
  obtain ⟨a0, a1, a2⟩ := a
  have := (val_lip (s := s) h hk).2
  omega
theorem val_nn {s b k : Int} {rs : List Pr} (h : Asc b rs) (hs : 0 ≤ s) : 0 ≤ val s rs k := by
  have := vsum_nn (k := k) h
  unfold val
  omega
theorem Asc.snoc : ∀ {rs : List Pr} {b lo : Int} {hi : Option Int}, Asc b rs → (∀ p ∈ rs, ∃ h, p.2 = some h ∧ h < lo) → b < lo → (∀ h, hi = some h → lo < h) → Asc b (rs ++ [(lo, hi)])
  | [], b, lo, none, _, _, hb, _ => ⟨hb, rfl⟩
  | [], b, lo, some h, _, _, hb, hh => ⟨hb, hh h rfl, trivial⟩
  | (l, none) :: ps, b, lo, hi, h, hc, hb, hh => by
    obtain ⟨g, hg, _⟩ := hc _ List.mem_cons_self
    cases hg
  | (l, some g) :: ps, b, lo, hi, h, hc, hb, hh => by
    obtain ⟨g', hg, hlt⟩ := hc _ List.mem_cons_self
    cases hg
    exact ⟨h.1, h.2.1, Asc.snoc h.2.2 (fun p hp => hc p (List.mem_cons_of_mem _ hp)) hlt hh⟩
theorem Asc.left : ∀ {rs qs : List Pr} {b : Int}, Asc b (rs ++ qs) → Asc b rs
  | [], _, _, _ => trivial
  | (l, none) :: ps, qs, b, h => by
    obtain ⟨h1, h2⟩ := h
    cases ps with
    | nil => exact ⟨h1, rfl⟩
    | cons _ _ => cases h2
  | (l, some g) :: ps, qs, b, h => ⟨h.1, h.2.1, Asc.left h.2.2⟩
theorem bndF_le {M : Int} (hM : 0 ≤ M) : ∀ {rs : List Pr} {s : Int}, 0 ≤ s → (∀ p ∈ rs, p.1 ≤ M) → (∀ p ∈ rs, ∀ h, p.2 = some h → p.1 ≤ h) → bndF s rs ≤ s + wsum rs + M
  | [], s, _, _, _ => by simp only [bndF, wsum]; omega
  | (l, none) :: ps, s, hs, h, g => by
    have := h _ List.mem_cons_self
    have hw : 0 ≤ wsum ps := wsum_nn fun p hp => g p (List.mem_cons_of_mem _ hp)
    simp only [bndF, wsum, mxI]
    simp only at this
    split <;> omega
  | (l, some k) :: ps, s, hs, h, g => by
    have h2 := g _ List.mem_cons_self k rfl
    simp only at h2
    have := bndF_le hM (rs := ps) (s := s + k - l) (by omega) (fun p hp => h p (List.mem_cons_of_mem _ hp)) fun p hp => g p (List.mem_cons_of_mem _ hp)
    simp only [bndF, wsum]
    omega
theorem not_opn {rs : List Pr} (h : ∀ p ∈ rs, ∃ h, p.2 = some h) (lo : Int) : ¬ Opn rs lo := fun ⟨pre, e⟩ => by
  obtain ⟨g, hg⟩ := h (lo, none) (by rw [e]; simp)
  cases hg
theorem snoc_cases {α : Type} (xs : List α) : xs = [] ∨ ∃ ys y, xs = ys ++ [y] := by
  rcases List.eq_nil_or_concat xs with h | ⟨ys, y, h⟩
  · exact .inl h
  · exact .inr ⟨ys, y, by rw [h, List.concat_eq_append]⟩
theorem Asc.opened : ∀ {pre : List Pr} {b lo h : Int}, Asc b (pre ++ [(lo, some h)]) → Asc b (pre ++ [(lo, none)])
  | [], _, _, _, h => ⟨h.1, rfl⟩
  | (l, none) :: ps, b, lo, h, g => by
    obtain ⟨h1, h2⟩ := g
    cases ps <;> cases h2
  | (l, some k) :: ps, b, lo, h, g => ⟨g.1, g.2.1, Asc.opened g.2.2⟩
theorem vsum_snoc : ∀ (rs : List Pr) (p : Pr) (k : Int), vsum (rs ++ [p]) k = vsum rs k + con p k
  | [], p, k => by simp [vsum]
  | q :: rs, p, k => by simp only [List.cons_append, vsum, vsum_snoc rs p k]; omega
theorem asc_lt2 : ∀ {rs : List Pr} {b : Int} {n : Nat} {lo g : Int}, Asc b rs → rs[n]? = some (lo, some g) → lo < g
  | [], _, _, _, _, _, h => by simp at h
  | (l, none) :: ps, b, 0, lo, g, h, hp => by cases hp
  | (l, none) :: ps, b, n + 1, lo, g, h, hp => by obtain ⟨h1, rfl⟩ := h; simp at hp
  | (l, some k) :: ps, b, 0, lo, g, h, hp => by cases hp; exact h.2.1
  | (l, some k) :: ps, b, n + 1, lo, g, h, hp => asc_lt2 h.2.2 hp
/-! ### halving -/
theorem half {l h : Int} (d : 1 < h - l) : l < (l + h) / 2 ∧ (l + h) / 2 < h := by omega
theorem half_l {l h m : Int} (hm : h - l ≤ 2 * m) : h - (l + h) / 2 ≤ m ∧ (l + h) / 2 - l ≤ m := by omega
end NM
set_option linter.all false
set_option Elab.async false
/-! a function on numbers and «nothing», applied again and again -/
namespace RM
open NM
def le (a b : Option Int) : Prop := match b with
  | none => True
  | some b => match a with
    | none => False
    | some a => a ≤ b
theorem le_some {a b : Int} : le (some a) (some b) ↔ a ≤ b := Iff.rfl
theorem le_none (a : Option Int) : le a none := by cases a <;> trivial
theorem le_refl (a : Option Int) : le a a := by cases a; trivial; exact Int.le_refl _
theorem le_total (a b : Option Int) : le a b ∨ le b a := by
  cases a with
  | none => exact .inr (le_none _)
  | some a => cases b with
    | none => exact .inl (le_none _)
    | some b => exact Int.le_total a b
theorem le_trans {a b c : Option Int} (h : le a b) (g : le b c) : le a c := by
  cases c with
  | none => exact le_none _
  | some c => cases b with
    | none => exact g.elim
    | some b => cases a with
      | none => exact h.elim
      | some a => exact Int.le_trans h g
theorem le_anti {a b : Option Int} (h : le a b) (g : le b a) : a = b := by
  cases a with
  | none => cases b with
    | none => rfl
    | some b => exact h.elim
  | some a => cases b with
    | none => exact g.elim
    | some b => exact congrArg some (Int.le_antisymm h g)
def it (f : Option Int → Option Int) : Nat → Option Int → Option Int
  | 0, k => k
  | j + 1, k => it f j (f k)
variable {f : Option Int → Option Int}
theorem it_succ : ∀ (j : Nat) (k : Option Int), it f (j + 1) k = f (it f j k)
  | 0, _ => rfl
  | j + 1, k => it_succ j (f k)
theorem it_add : ∀ (a b : Nat) (k : Option Int), it f (a + b) k = it f b (it f a k)
  | 0, b, k => by rw [Nat.zero_add]; rfl
  | a + 1, b, k => by rw [Nat.add_right_comm]; exact it_add a b (f k)
def Mono (f : Option Int → Option Int) : Prop := ∀ a b, le a b → le (f a) (f b)
theorem up1 (m : Mono f) {k : Option Int} (h : le k (f k)) (j : Nat) : le (it f j k) (it f (j + 1) k) := by
  induction j with
  | zero => exact h
  | succ j ih => rw [it_succ j, it_succ (j + 1)]; exact m _ _ ih
theorem dn1 (m : Mono f) {k : Option Int} (h : le (f k) k) (j : Nat) : le (it f (j + 1) k) (it f j k) := by
  induction j with
  | zero => exact h
  | succ j ih => rw [it_succ j, it_succ (j + 1)]; exact m _ _ ih
theorem up2 (m : Mono f) {k : Option Int} (h : le k (f k)) (i d : Nat) : le (it f i k) (it f (i + d) k) := by
  induction d with
  | zero => exact le_refl _
  | succ d ih => exact le_trans ih (up1 m h _)
theorem dn2 (m : Mono f) {k : Option Int} (h : le (f k) k) (i d : Nat) : le (it f (i + d) k) (it f i k) := by
  induction d with
  | zero => exact le_refl _
  | succ d ih => exact le_trans (dn1 m h _) ih
theorem up (m : Mono f) {k : Option Int} (h : le k (f k)) {i j : Nat} (hij : i ≤ j) : le (it f i k) (it f j k) := by
  obtain ⟨d, rfl⟩ := Nat.le.dest hij
  exact up2 m h i d
theorem dn (m : Mono f) {k : Option Int} (h : le (f k) k) {i j : Nat} (hij : i ≤ j) : le (it f j k) (it f i k) := by
  obtain ⟨d, rfl⟩ := Nat.le.dest hij
  exact dn2 m h i d
theorem it_fix {k : Option Int} (h : f k = k) : ∀ j, it f j k = k
  | 0 => rfl
  | j + 1 => by show it f j (f k) = k; rw [h]; exact it_fix h j
/-- the least number with a property, or none -/
def Least (p : Nat → Prop) (r : Option Int) : Prop := match r with
  | none => ∀ j, ¬ p j
  | some m => ∃ j : Nat, m = (j : Int) ∧ p j ∧ ∀ i, i < j → ¬ p i
theorem Least.uniq {p : Nat → Prop} {r t : Option Int} (a : Least p r) (b : Least p t) : r = t := by
  cases r with
  | none => cases t with
    | none => rfl
    | some t => obtain ⟨j, _, h, _⟩ := b; exact absurd h (a j)
  | some r => cases t with
    | none => obtain ⟨j, _, h, _⟩ := a; exact absurd h (b j)
    | some t =>
      obtain ⟨i, rfl, hi, li⟩ := a
      obtain ⟨j, rfl, hj, lj⟩ := b
      by_cases h : i < j
      · exact absurd hi (lj i h)
      · by_cases h2 : j < i
        · exact absurd hj (li j h2)
        · rw [show i = j by omega]
/-- a walk of c turns, none of which has the property before -/
structure Wk (f : Option Int → Option Int) (P : Option Int → Prop) (k0 : Option Int) (c : Nat) (v : Option Int) : Prop where
  here : it f c k0 = v
  no : ∀ j, j < c → ¬ P (it f j k0)
variable {P : Option Int → Prop} {k0 : Option Int}
theorem Wk.zero (k0 : Option Int) : Wk f P k0 0 k0 := ⟨rfl, fun j h => absurd h (Nat.not_lt_zero _)⟩
/-- a number of turns of one change -/
def Str (f : Option Int → Option Int) (v ch : Int) (m : Nat) : Prop := ∀ j : Nat, j < m → f (some (v + j * ch)) = some (v + (j + 1) * ch)
theorem Str.mono {v ch : Int} {m j : Nat} (s : Str f v ch m) (h : j ≤ m) : Str f v ch j := fun i hi => s i (by omega)
theorem Str.it {v ch : Int} {m : Nat} (s : Str f v ch m) : ∀ j, j ≤ m → it f j (some v) = some (v + j * ch)
  | 0, _ => by show some v = _; congr 1; rw [show ((0 : Nat) : Int) = 0 from rfl, Int.zero_mul]; omega
  | j + 1, h => by
    rw [it_succ, s.it j (by omega), s j (by omega)]
    rfl
theorem Wk.stride {c m : Nat} {v ch : Int} (w : Wk f P k0 c (some v)) (s : Str f v ch m) (n : ∀ j : Nat, j < m → ¬ P (some (v + j * ch))) : Wk f P k0 (c + m) (some (v + m * ch)) where
  here := by rw [it_add, w.here]; exact s.it m (Nat.le_refl _)
  no := fun j hj => by
    by_cases h : j < c
    · exact w.no j h
    · obtain ⟨d, rfl⟩ := Nat.le.dest (Nat.le_of_not_lt h)
      rw [it_add, w.here, s.it d (by omega)]
      exact n d (by omega)
theorem Wk.one {c : Nat} {v u : Option Int} (w : Wk f P k0 c v) (n : ¬ P v) (e : f v = u) : Wk f P k0 (c + 1) u where
  here := by rw [it_succ, w.here, e]
  no := fun j hj => by
    by_cases h : j < c
    · exact w.no j h
    · rw [show j = c by omega, w.here]; exact n
theorem Wk.done {c : Nat} {v : Option Int} (w : Wk f P k0 c v) (h : P v) : Least (fun j => P (RM.it f j k0)) (some (c : Int)) := ⟨c, rfl, by show P _; rw [w.here]; exact h, w.no⟩
theorem Wk.never {c : Nat} {v : Option Int} (w : Wk f P k0 c v) (n : ∀ j, ¬ P (RM.it f j v)) : Least (fun j => P (RM.it f j k0)) none := fun j => by
  by_cases h : j < c
  · exact w.no j h
  · obtain ⟨d, rfl⟩ := Nat.le.dest (Nat.le_of_not_lt h)
    show ¬ P _
    rw [it_add, w.here]
    exact n d
theorem it_fix' {k : Option Int} {i : Nat} (h : it f (i + 1) k = it f i k) {j : Nat} (hj : i ≤ j) : it f j k = it f i k := by
  obtain ⟨d, rfl⟩ := Nat.le.dest hj
  rw [it_add]
  exact it_fix (f := f) ((it_succ (f := f) i k).symm.trans h) d
/-- affordable; beyond the purse -/
def Aff (purse : Int) (v : Option Int) : Prop := le v (some purse)
def Exc (purse : Int) (v : Option Int) : Prop := ¬ le v (some purse)
/-- products of counts and changes -/
theorem mul_ge {j c : Int} (hj : 1 ≤ j) (hc : 1 ≤ c) : c ≤ j * c := by
  have := Int.mul_le_mul_of_nonneg_right hj (show 0 ≤ c by omega)
  omega
theorem mul_mono {i j c : Int} (h : i ≤ j) (hc : 0 ≤ c) : i * c ≤ j * c := Int.mul_le_mul_of_nonneg_right h hc
/-- j turns of c within d -/
theorem div_le {j d c : Int} (hc : 0 < c) (h : j ≤ d / c) : j * c ≤ d := by
  have := Int.mul_le_mul_of_nonneg_right h (show 0 ≤ c by omega)
  have := Int.ediv_mul_le d (show c ≠ 0 by omega)
  omega
theorem div_gt {d c : Int} (hc : 0 < c) : d < (d / c + 1) * c := Int.lt_ediv_add_one_mul_self d hc
theorem div_nn {d c : Int} (hd : 0 ≤ d) (hc : 0 < c) : 0 ≤ d / c := Int.ediv_nonneg hd (by omega)
theorem div_le_self {d c : Int} (hd : 0 ≤ d) (hc : 0 < c) : d / c ≤ d := Int.ediv_le_self c hd
/-- ceilings, as the law writes them -/
theorem ceil_neg {d c : Int} (hc : 0 < c) : 0 - (-d) / c = (d - 1) / c + 1 := by
  have h1 := Int.ediv_mul_le (-d) (show c ≠ 0 by omega)
  have h2 := Int.lt_ediv_add_one_mul_self (-d) hc
  have h3 := Int.ediv_mul_le (d - 1) (show c ≠ 0 by omega)
  have h4 := Int.lt_ediv_add_one_mul_self (d - 1) hc
  generalize (-d) / c = x at *
  generalize (d - 1) / c = y at *
  have h5 : (x + y + 1) * c < c := by
    rw [Int.add_mul, Int.add_mul] at *
    omega
  have h6 : -c < (x + y + 1) * c := by
    rw [Int.add_mul, Int.add_mul] at *
    omega
  have h7 : x + y + 1 = 0 := by
    rcases Int.lt_trichotomy (x + y + 1) 0 with h | h | h
    · have := mul_mono (show x + y + 1 ≤ -1 by omega) (show 0 ≤ c by omega)
      omega
    · exact h
    · have := mul_mono (show 1 ≤ x + y + 1 by omega) (show 0 ≤ c by omega)
      omega
  omega
/-- the needs' own functions -/
def fn (s : Option Int) (rs : List Pr) (nv : Option Int) (k : Option Int) : Option Int := match s, k with
  | some s, some k => some (val s rs k)
  | _, _ => nv
theorem fn_mono {s nv : Option Int} {rs : List Pr} (ha : Asc (-1) rs) (hn : s = none → nv = none)
    (hv : ∀ v, nv = some v → ∃ s0, s = some s0 ∧ (∀ lo, ¬ Opn rs lo) ∧ s0 + wsum rs ≤ v) : Mono (fn s rs nv) := fun a b h => by
  cases s with
  | none => show le nv nv; exact le_refl _
  | some s =>
    cases b with
    | none =>
      cases a with
      | none => exact le_refl _
      | some a =>
        cases nv with
        | none => exact le_none _
        | some v =>
          obtain ⟨s0, e, hc, hw⟩ := hv v rfl
          cases e
          have := wsum_ge (k := a) ha hc
          show val s rs a ≤ v
          unfold val
          omega
    | some b =>
      cases a with
      | none => exact h.elim
      | some a => exact (val_lip ha h).1
/-- within one rise the value moves with the number -/
theorem seg : ∀ {rs : List Pr} {b k k' : Int} {n : Nat} {p : Pr}, Asc b rs → rs[n]? = some p → p.1 ≤ k → (∀ h, p.2 = some h → k ≤ h) → p.1 ≤ k' → (∀ h, p.2 = some h → k' ≤ h) → vsum rs k' = vsum rs k + (k' - k)
  | [], _, _, _, _, _, _, h, _, _, _, _ => by simp at h
  | (lo, none) :: ps, b, k, k', n, p, h, hp, h1, h2, h3, h4 => by
    obtain ⟨g1, rfl⟩ := h
    cases n with
    | zero =>
      cases hp
      simp only [vsum, con_none]
      simp only at h1 h3
      split <;> split <;> omega
    | succ n => simp at hp
  | (lo, some g) :: ps, b, k, k', 0, p, h, hp, h1, h2, h3, h4 => by
    obtain ⟨g1, g2, g3⟩ := h
    cases hp
    have e2 := h2 g rfl
    have e4 := h4 g rfl
    simp only at h1 h3
    simp only [vsum, con_some]
    rw [vsum_le g3 (show k' ≤ g + 1 by omega), vsum_le g3 (show k ≤ g + 1 by omega)]
    split <;> split <;> (try split) <;> (try split) <;> omega
  | (lo, some g) :: ps, b, k, k', n + 1, p, h, hp, h1, h2, h3, h4 => by
    obtain ⟨g1, g2, g3⟩ := h
    have e := seg g3 hp h1 h2 h3 h4
    have := asc_lt g3 hp
    simp only [vsum, con_some]
    rw [if_neg (by omega), if_neg (by omega), if_neg (by omega), if_neg (by omega)]
    omega
theorem fn_some {s k : Int} {rs : List Pr} {nv : Option Int} : fn (some s) rs nv (some k) = some (val s rs k) := rfl
/-- the stride of one turn -/
theorem str_one {v ch : Int} (h : f (some v) = some (v + ch)) : Str f v ch 1 := fun j hj => by
  have : j = 0 := by omega
  subst this
  rw [show v + ((0 : Nat) : Int) * ch = v by rw [show ((0 : Nat) : Int) = 0 from rfl, Int.zero_mul]; omega, h]
  rw [show ((0 : Nat) : Int) + 1 = 1 from rfl, Int.one_mul]
theorem str_zero {v : Int} (h : f (some v) = some v) (m : Nat) : Str f v 0 m := fun j hj => by
  rw [Int.mul_zero, Int.mul_zero, Int.add_zero]; exact h
/-- the stride down a rise -/
theorem str_down {s k lo : Int} {hi : Option Int} {rs : List Pr} {nv : Option Int} {n m : Nat} (ha : Asc (-1) rs) (hp : rs[n]? = some (lo, hi)) (h1 : lo ≤ k) (h2 : ∀ h, hi = some h → k ≤ h)
    (hc : val s rs k - k < 0) (hm : (m : Int) ≤ (k - lo) / -(val s rs k - k) + 1) : Str (fn (some s) rs nv) k (val s rs k - k) m := fun j hj => by
  have hj' : (j : Int) ≤ (k - lo) / -(val s rs k - k) := by omega
  have e := div_le (show 0 < -(val s rs k - k) by omega) hj'
  rw [Int.mul_neg] at e
  have e2 := mul_mono (show (0 : Int) ≤ j by omega) (show 0 ≤ -(val s rs k - k) by omega)
  rw [Int.zero_mul, Int.mul_neg] at e2
  have := seg (k := k) (k' := k + j * (val s rs k - k)) ha hp h1 h2 (by show lo ≤ _; omega) (fun h hh => by have := h2 h hh; omega)
  show some _ = some _
  congr 1
  rw [Int.add_mul, Int.one_mul]
  unfold val at *
  omega
/-- the stride up a rise -/
theorem str_up {s k lo : Int} {hi : Option Int} {rs : List Pr} {nv : Option Int} {n m : Nat} (ha : Asc (-1) rs) (hp : rs[n]? = some (lo, hi)) (h1 : lo ≤ k) (h2 : ∀ h, hi = some h → k ≤ h)
    (hc : 0 < val s rs k - k) (hm : ∀ h, hi = some h → (m : Int) ≤ (h - k) / (val s rs k - k) + 1) : Str (fn (some s) rs nv) k (val s rs k - k) m := fun j hj => by
  have e2 := mul_mono (show (0 : Int) ≤ j by omega) (show 0 ≤ val s rs k - k by omega)
  rw [Int.zero_mul] at e2
  have := seg (k := k) (k' := k + j * (val s rs k - k)) ha hp h1 h2 (by show lo ≤ _; omega) (fun h hh => by
    have hj' : (j : Int) ≤ (h - k) / (val s rs k - k) := by have := hm h hh; omega
    have e := div_le (show 0 < val s rs k - k by omega) hj'
    omega)
  show some _ = some _
  congr 1
  rw [Int.add_mul, Int.one_mul]
  unfold val at *
  omega
theorem stuck_a {p m : Int} {k : Option Int} {i : Nat} (mo : Mono f) (h : Least (fun j => Aff p (it f j k)) (some m)) (hm : (i : Int) + 1 < m) :
    it f (i + 1) k ≠ it f i k ∧ ∃ b, it f (i + 1) k = some b ∧ ∀ a, k = some a → b ≤ a := by
  obtain ⟨j, rfl, hj, hn⟩ := h
  have ne : it f (i + 1) k ≠ it f i k := fun e => by
    have := it_fix' e (show i ≤ j by omega)
    have hj : Aff p (it f j k) := hj
    rw [this] at hj
    exact hn i (by omega) hj
  have hd : le (f k) k := by
    rcases le_total k (f k) with h | h
    · exact absurd (le_trans (up mo h (Nat.zero_le j)) hj) (hn 0 (by omega))
    · exact h
  refine ⟨ne, ?_⟩
  cases e : it f (i + 1) k with
  | none =>
    have := dn1 mo hd i
    rw [e] at this ne
    cases e2 : it f i k with
    | none => exact absurd e2.symm ne
    | some v => rw [e2] at this; exact this.elim
  | some b =>
    refine ⟨b, rfl, fun a ha => ?_⟩
    have := dn mo hd (Nat.zero_le (i + 1))
    rw [e] at this
    subst ha
    exact this
theorem stuck_e {p m : Int} {k : Option Int} {i : Nat} (mo : Mono f) (h : Least (fun j => Exc p (it f j k)) (some m)) (hm : (i : Int) + 1 < m) :
    it f (i + 1) k ≠ it f i k ∧ ∃ a, k = some a ∧ ∀ b, it f (i + 1) k = some b → a < b := by
  obtain ⟨j, rfl, hj, hn⟩ := h
  have ne : it f (i + 1) k ≠ it f i k := fun e => by
    have := it_fix' e (show i ≤ j by omega)
    have hj : Exc p (it f j k) := hj
    rw [this] at hj
    exact hn i (by omega) hj
  have h0 : le k (some p) := Classical.byContradiction (hn 0 (by omega))
  have hu : le k (f k) := by
    rcases le_total k (f k) with h | h
    · exact h
    · exact absurd (le_trans (dn mo h (Nat.zero_le j)) h0) hj
  refine ⟨ne, ?_⟩
  cases k with
  | none => exact h0.elim
  | some a =>
    refine ⟨a, rfl, fun b hb => ?_⟩
    have h1 : le (some a) (it f i (some a)) := up mo hu (Nat.zero_le i)
    have h2 := up1 mo hu i
    rw [hb] at h2 ne
    have h3 : a ≤ b := le_trans h1 h2
    by_cases hab : a = b
    · subst hab
      exact absurd (le_anti h1 h2) ne
    · omega
/-- least and greatest of a walk are at its ends -/
theorem low_end {k : Option Int} (mo : Mono f) (L : Nat) {m : Option Int} (hm : ∃ j, j ≤ L ∧ m = it f j k) (hl : ∀ j, j ≤ L → le m (it f j k)) {e : Option Int} (he : e = k ∨ e = it f L k) (h1 : le e k) (h2 : le e (it f L k)) : m = e := by
  obtain ⟨j, hj, rfl⟩ := hm
  refine le_anti ?_ ?_
  · rcases he with rfl | rfl
    · exact hl 0 (Nat.zero_le _)
    · exact hl L (Nat.le_refl _)
  · rcases le_total k (f k) with h | h
    · exact le_trans h1 (up mo h (Nat.zero_le j))
    · exact le_trans h2 (dn mo h hj)
theorem high_end {k : Option Int} (mo : Mono f) (L : Nat) {m : Option Int} (hm : ∃ j, j ≤ L ∧ m = it f j k) (hl : ∀ j, j ≤ L → le (it f j k) m) {e : Option Int} (he : e = k ∨ e = it f L k) (h1 : le k e) (h2 : le (it f L k) e) : m = e := by
  obtain ⟨j, hj, rfl⟩ := hm
  refine le_anti ?_ ?_
  · rcases le_total k (f k) with h | h
    · exact le_trans (up mo h hj) h2
    · exact le_trans (dn mo h (Nat.zero_le j)) h1
  · rcases he with rfl | rfl
    · exact hl 0 (Nat.zero_le _)
    · exact hl L (Nat.le_refl _)
/-- turns upward until beyond d -/
theorem lp {v d c : Int} (h : v ≤ d) (hc : 0 < c) : ∃ m : Nat, (m : Int) = (d - v) / c + 1 ∧ 1 ≤ m ∧ (∀ j : Nat, j < m → v + j * c ≤ d) ∧ d < v + m * c ∧ (m : Int) ≤ d - v + 1 := by
  have h0 := div_nn (show 0 ≤ d - v by omega) hc
  have h1 := div_le_self (show 0 ≤ d - v by omega) hc
  obtain ⟨m, hm⟩ := Int.eq_ofNat_of_zero_le (show 0 ≤ (d - v) / c + 1 by omega)
  refine ⟨m, hm.symm, by omega, fun j hj => ?_, ?_, by omega⟩
  · have := div_le hc (show (j : Int) ≤ (d - v) / c by omega)
    omega
  · have := div_gt (d := d - v) hc
    rw [← show (m : Int) = (d - v) / c + 1 from hm.symm] at this
    omega
/-- turns downward until at most p -/
theorem lpd {v p c : Int} (h : p < v) (hc : 0 < c) : ∃ m : Nat, (m : Int) = 0 - (p - v) / c ∧ 1 ≤ m ∧ (∀ j : Nat, j < m → p < v + j * -c) ∧ v + m * -c ≤ p ∧ (m : Int) ≤ v - p := by
  have e := ceil_neg (d := v - p) hc
  rw [show -(v - p) = p - v by omega] at e
  obtain ⟨m, hm, h1, h2, h3, h4⟩ := lp (v := 0) (d := v - p - 1) (c := c) (by omega) hc
  rw [show v - p - 1 - 0 = v - p - 1 by omega] at hm
  refine ⟨m, by omega, h1, fun j hj => ?_, ?_, by omega⟩
  · have := h2 j hj
    rw [Int.mul_neg]
    omega
  · rw [Int.mul_neg]
    omega
theorem str_of {v ch : Int} {m : Nat} (h : ∀ j : Nat, j < m → f (some (v + j * ch)) = some (v + j * ch + ch)) : Str f v ch m := fun j hj => by
  rw [h j hj, Int.add_mul, Int.one_mul]
  congr 1
  omega
theorem Str.cut {v ch L : Int} {m : Nat} (s : Str f v ch m) (h : (m : Int) ≤ L) : RM.it f (L - m).toNat (some (v + m * ch)) = RM.it f L.toNat (some v) := by
  rw [show L.toNat = m + (L - (m : Int)).toNat by omega, it_add, s.it m (Nat.le_refl _)]
theorem cut1 {v u L : Int} (h : f (some v) = some u) (hL : 0 < L) : RM.it f (L - 1).toNat (some u) = RM.it f L.toNat (some v) := by
  rw [show L.toNat = (L - 1).toNat + 1 by omega]
  show _ = RM.it f _ (f (some v))
  rw [h]
/-- down by c each turn, never below base -/
structure Fall (f : Option Int → Option Int) (base c E : Int) : Prop where
  low : base ≤ E
  pos : 0 < c
  fall : ∀ k, 0 ≤ k → k ≤ E → f (some k) = some (if k - c > base then k - c else base)
theorem Fall.least {base c E v p : Int} {n : Nat} {k0 : Option Int} (h : Fall f base c E) (hb : 0 ≤ base) (hv : v ≤ E) (hp : p < v) (hbp : base ≤ p) (w : Wk f (Aff p) k0 n (some v)) : Least (fun j => Aff p (it f j k0)) (some ((n : Int) - (p - v) / c)) := by
  obtain ⟨m, hm, h1, h2, h3, _⟩ := lpd hp h.pos
  obtain ⟨m, rfl⟩ : ∃ k, m = k + 1 := ⟨m - 1, by omega⟩
  have hpos := h.pos
  have neg : ∀ j : Nat, (j : Int) * -c ≤ 0 := fun j => by
    have := mul_mono (show (0 : Int) ≤ j by omega) (show 0 ≤ c by have := h.pos; omega)
    rw [Int.mul_neg]
    omega
  have s : Str f v (-c) m := str_of fun j hj => by
    have g1 := h2 (j + 1) (by omega)
    have g2 := neg j
    rw [show ((j + 1 : Nat) : Int) = (j : Int) + 1 by omega, Int.add_mul, Int.one_mul] at g1
    rw [h.fall _ (by omega) (by omega), if_pos (by omega)]
    congr 1
  have w2 := w.stride s fun j hj a => by
    have := h2 j (by omega)
    have : v + j * -c ≤ p := a
    omega
  have g0 := h2 m (by omega)
  have gn := neg m
  rw [show ((m + 1 : Nat) : Int) = (m : Int) + 1 by omega, Int.add_mul, Int.one_mul] at h3
  have w3 := w2.one (fun a => by have : v + m * -c ≤ p := a; omega) (h.fall _ (by omega) (by omega))
  have d := w3.done (by show (if v + m * -c - c > base then v + m * -c - c else base) ≤ p; split <;> omega)
  rw [show ((n + m + 1 : Nat) : Int) = (n : Int) - (p - v) / c by omega] at d
  exact d
theorem Fall.it {base c E v : Int} (h : Fall f base c E) (hb : 0 ≤ base) (h0 : 0 ≤ v) (hv : v ≤ E) : ∀ L : Nat, RM.it f (L + 1) (some v) = some (if v - ((L : Int) + 1) * c > base then v - ((L : Int) + 1) * c else base)
  | 0 => by
    show f (some v) = _
    rw [h.fall v h0 hv, show ((0 : Nat) : Int) + 1 = 1 from rfl, Int.one_mul]
  | L + 1 => by
    have hp := h.pos
    have hl := h.low
    rw [it_succ, Fall.it h hb h0 hv L]
    have g := mul_mono (show (0 : Int) ≤ (L : Int) + 1 by omega) (show 0 ≤ c by omega)
    rw [Int.zero_mul] at g
    rw [show ((L + 1 : Nat) : Int) + 1 = ((L : Int) + 1) + 1 by omega, Int.add_mul ((L : Int) + 1) 1 c, Int.one_mul]
    generalize ((L : Int) + 1) * c = x at *
    rw [h.fall _ (by split <;> omega) (by split <;> omega)]
    congr 1
    split <;> split <;> split <;> omega
theorem Fall.never {base c E v p : Int} (h : Fall f base c E) (hb : 0 ≤ base) (h0 : 0 ≤ v) (hv : v ≤ E) (hp : p < v) (hbp : p < base) : Least (fun j => Aff p (RM.it f j (some v))) none := fun j => by
  cases j with
  | zero => show ¬ v ≤ p; omega
  | succ j =>
    show ¬ Aff p (RM.it f (j + 1) (some v))
    rw [h.it hb h0 hv j]
    show ¬ (if v - ((j : Int) + 1) * c > base then v - ((j : Int) + 1) * c else base) ≤ p
    split <;> omega
/-- up by c each turn -/
structure Rise (f : Option Int → Option Int) (c : Int) : Prop where
  pos : 0 < c
  rise : ∀ k, 0 ≤ k → f (some k) = some (k + c)
theorem Rise.str {c v : Int} (h : Rise f c) (h0 : 0 ≤ v) (m : Nat) : Str f v c m := str_of fun j hj => by
  have := Int.mul_nonneg (show (0 : Int) ≤ j by omega) (show 0 ≤ c by have := h.pos; omega)
  rw [h.rise _ (by omega)]
theorem Rise.it {c v : Int} (h : Rise f c) (h0 : 0 ≤ v) (L : Nat) : RM.it f L (some v) = some (v + L * c) := (h.str h0 L).it L (Nat.le_refl _)
theorem Rise.least {c v p : Int} (h : Rise f c) (h0 : 0 ≤ v) (hp : v ≤ p) : Least (fun j => Exc p (RM.it f j (some v))) (some ((p - v) / c + 1)) := by
  obtain ⟨m, hm, h1, h2, h3, h4⟩ := lp hp h.pos
  have w := (Wk.zero (f := f) (P := Exc p) (some v)).stride (h.str h0 m) fun j hj a => a (h2 j hj)
  have d := w.done (fun a => by have : v + m * c ≤ p := a; omega)
  rw [Nat.zero_add, hm] at d
  exact d
theorem Rise.never {c v p : Int} (h : Rise f c) (h0 : 0 ≤ v) (hp : p < v) : Least (fun j => Aff p (RM.it f j (some v))) none := fun j => by
  show ¬ Aff p (RM.it f j (some v))
  rw [h.it h0 j]
  show ¬ v + j * c ≤ p
  have := Int.mul_nonneg (show (0 : Int) ≤ j by omega) (show 0 ≤ c by have := h.pos; omega)
  omega
end RM
set_option Elab.async false
set_option linter.all false
set_option maxRecDepth 100000
set_option maxHeartbeats 4000000
namespace K19
open PySem PySem.Spec PyProof.Rows L2 DL
def topS (i : Nat) : Stmt := PySem.Challenge.pw_signedpacts_k19_need_round_counts.main.body.getD i (.Pass ⟨0, 0, 0, 0⟩)
structure Txt (K : PySem.W.Frag) (mg : Str → Option Value) (cNeed : Addr) : Prop where
  cl_Need : Cls K cNeed
  mg_Need : mg "Need" = some (.ref cNeed)
  sf_Need : PySem.W.selfFirst K cNeed = true
  nf_Need : PySem.W.notFirst K cNeed (.ref cNeed) = true
  is_Need : C8.InsC K cNeed
  n_Need_start : NoAttr K cNeed "start"
  n_Need_rises : NoAttr K cNeed "rises"
  n_Need_never : NoAttr K cNeed "never"
  n_Need__values : NoAttr K cNeed "_values"
/-- a list or a tuple -/
def sq (t : Bool) (ps : List P) : P := if t then .tup ps else .lst ps
theorem pseq_sq (t : Bool) (ps : List P) : pseq (sq t ps) = some ps := by cases t <;> rfl
abbrev pR (t : Bool) (rs : List (List Int)) : List P := rs.map fun r => sq t (pI r)
theorem ixN_m1 {n : Nat} (h : 0 < n) : ixN n (-1) = some (n - 1) := by
  unfold ixN
  rw [if_neg (by decide), if_pos (by omega)]
  congr 1
  omega
theorem ixN_0 {n : Nat} (h : 0 < n) : ixN n 0 = some 0 := by
  unfold ixN
  rw [if_pos (by decide), if_pos (by omega)]
  rfl
theorem atI_m1 {α : Type} {xs : List α} {x : α} (h : xs[xs.length - 1]? = some x) : atI xs (-1) = some x := by
  unfold atI
  rw [ixN_m1 (by cases xs with | nil => cases h | cons => exact Nat.succ_pos _)]
  exact h
theorem atI_0 {α : Type} {xs : List α} {x : α} (h : xs[0]? = some x) : atI xs 0 = some x := by
  unfold atI
  rw [ixN_0 (by cases xs with | nil => cases h | cons => exact Nat.succ_pos _)]
  exact h
theorem last_map {α β : Type} {f : α → β} {xs : List α} {x : α} (h : xs[xs.length - 1]? = some x) : (xs.map f)[(xs.map f).length - 1]? = some (f x) := by
  rw [List.length_map, List.getElem?_map, h]; rfl
theorem fst_map {α β : Type} {f : α → β} {xs : List α} {x : α} (h : xs[0]? = some x) : (xs.map f)[0]? = some (f x) := by
  rw [List.getElem?_map, h]; rfl
theorem shp_rows (rs : List (List Int)) : Shp (.lst (rs.map fun r => P.lst (pI r))) 2 := .lst fun r _ => shp_ints r
theorem shp_trows (rs : List (List Int)) : Shp (.tup (rs.map fun r => P.tup (pI r))) 2 := .tup fun r _ => shp_tints r
theorem frz_oll (rows : List (List Int)) : (D.oll (rows.map pI)).frz = sq false (pR false rows) := by
  show P.lst (List.map P.lst (List.map pI rows)) = P.lst _
  rw [List.map_map]; rfl
theorem shp_oll (rs : List (List Int)) : Shp (D.oll (rs.map pI)).frz 2 := by rw [frz_oll]; exact shp_rows rs
theorem neqv {p : P} {n : Nat} (h : Shp p n) (g : (!PyData.eqv p.toD p.toD) = true) : False := by
  rw [h.refl] at g; exact Bool.noConfusion g
theorem tupO_pI : ∀ xs : List Int, tupO (.tup (pI xs))
  | [] => trivial
  | _ :: xs => ⟨trivial, tupO_pI xs⟩
theorem atIr {ps : List P} {k : Int} {p : P} (h : atI ps k = some p) : atI ps k = some p := h
theorem lookR {fs : List (Str × P)} {f : Str} {p : P} (h : fs.lookup f = some p) : fs.lookup f = some p := h
theorem look_hit {f g : Str} {p : P} {r : List (Str × P)} (h : (f == g) = true) : ((g, p) :: r).lookup f = some p := by rw [List.lookup, h]
theorem look_miss {f g : Str} {p : P} {r : List (Str × P)} {o : Option P} (h : (f == g) = false) (k : r.lookup f = o) : ((g, p) :: r).lookup f = o := by rw [List.lookup, h]; exact k
local macro_rules | `(tactic| walk_at "lk") => `(tactic| repeat' (first | exact look_hit (by decide +kernel) | refine look_miss (by decide +kernel) ?_ | exact rfl))
local macro_rules | `(tactic| walk_at "ok") => `(tactic| first | ((with_reducible show SeqAt.shaped _ = true); first | exact (shp_ints _).ok | exact (shp_tints _).ok | exact (shp_rows _).ok | exact (shp_trows _).ok | exact (shp_oll _).ok) | ((with_reducible show (_ : Bool) = true); rfl) | ((with_reducible show slots _ = _); rfl) | ((with_reducible show List.length _ = _); rfl) | ((with_reducible show _ ≤ sizeLine); first | decide | (rw [sizeLine_eq]; first | omega | (simp only [List.length_map, List.length_append, List.length_cons, List.length_nil, List.length_take]; omega))) | ((with_reducible show _ < sizeLine); first | decide | (rw [sizeLine_eq]; first | omega | (simp only [List.length_map, List.length_append, List.length_cons, List.length_nil, List.length_take]; omega))) | ((with_reducible show CDivW _ _); refine cdiv_of ?_ ?_ <;> omega) | ((with_reducible show CMulW _ _); refine cmul64 ⟨?_, ?_⟩ ⟨?_, ?_⟩ <;> omega) | ((with_reducible show (0 : Int) < _); first | decide | omega) | ((with_reducible show (_ ∧ _)); exact ⟨rfl, rfl⟩) | (with_reducible assumption) | ((with_reducible show CPow _ _); exact ⟨by decide, by decide, by decide⟩) | ((with_reducible show ClsA _ _ _); assumption) | ((with_reducible show C8.InsC _ _); assumption) | ((with_reducible show List.lookup _ _ = none); walk_at "lk") | ((with_reducible show List.length _ < 1000); exact Nat.le_of_ble_eq_true rfl) | (with_reducible rfl) | omega)
local macro_rules | `(tactic| walk_at "go") => `(tactic| ((repeat ((conv => whnf); refine And.intro (by walk_at "ok") ?_)); (try (conv => whnf))))
local macro_rules | `(tactic| walk_at "sp") => `(tactic| ((with_reducible show (_ = true → _) ∧ (_ = false → _)); refine And.intro (fun hc => ?_) (fun hc => ?_) <;> (first | exact Bool.noConfusion hc | (simp only [decide_eq_true_eq, decide_eq_false_iff_not, Bool.not_eq_true', Bool.not_eq_false', Int.not_lt, Int.not_le] at hc) | skip)))
local macro_rules | `(tactic| walk_at "ix") => `(tactic| first | ((with_reducible show ∃ p, atI (_ :: _) _ = some p ∧ _); refine ⟨_, atIr rfl, ?_⟩) | ((with_reducible show ∃ p, List.lookup _ _ = some p ∧ _); refine ⟨_, lookR (by walk_at "lk"), ?_⟩))
local macro_rules | `(tactic| walk_at "au") => `(tactic| ((walk_at "go"); repeat' (first | ((walk_at "sp") <;> (walk_at "go")) | ((walk_at "ix"); (walk_at "go")))))
local macro_rules | `(tactic| walk_at "ax") => `(tactic| ((walk_at "au"); all_goals (try (exfalso; omega))))
/-- an int that no product makes too great -/
def Sm (x : Int) : Prop := -(2 ^ 1000 : Int) < x ∧ x < 2 ^ 1000
theorem sm_mul {a b : Int} (ha : Sm a) (hb : Sm b) : CMulW a b := cmul_of 1000 1000 ha hb
theorem sm_of {v : Int} (B : Int) (h : -B ≤ v ∧ v ≤ B) (hB : B < 2 ^ 1000 := by decide +kernel) : Sm v := ⟨by omega, by omega⟩
theorem sm_div {a b : Int} (ha : 0 < b) (hb : Sm b) : CDivW a b := ⟨ha, Nat.lt_trans (log_lt (n := 1000) hb.1 hb.2 (by decide)) (by decide)⟩
theorem map_get {α : Type} {f : α → P} {xs : List α} {i : Nat} {p : P} (h : (xs.map f)[i]? = some p) : ∃ x, xs[i]? = some x ∧ p = f x := by
  rw [List.getElem?_map] at h
  cases e : xs[i]? with
  | none => rw [e] at h; cases h
  | some n => rw [e] at h; cases h; exact ⟨n, rfl, rfl⟩
theorem take_map {α β : Type} {f : α → β} {xs : List α} {i : Nat} {x : α} (h : xs[i]? = some x) : (xs.take (i + 1)).map f = (xs.take i).map f ++ [f x] := by
  rw [List.take_succ, h, List.map_append]; rfl
theorem getD_of {α : Type} {xs : List α} {i : Nat} {x d : α} (h : xs[i]? = some x) : xs.getD i d = x := by rw [List.getD_eq_getElem?_getD, h]; rfl
theorem atI0 {α : Type} {f : α → P} {xs : List α} {j : Nat} {x : α} (h : xs[j]? = some x) : atI (xs.map f) (0 + (j : Int)) = some (f x) := by
  rw [Int.zero_add]; exact atI_nat (by rw [List.getElem?_map, h]; rfl)
theorem lt_of_get {α : Type} {xs : List α} {i : Nat} {x : α} (h : xs[i]? = some x) : i < xs.length := (List.getElem?_eq_some_iff.mp h).1
theorem pI_snoc (xs : List Int) (v : Int) : pI (xs ++ [v]) = pI xs ++ [.int v] := by simp only [pI, List.map_append]; rfl
open NM (Pr con vsum Asc ascB flatF Opn bndF wsum lowsF val IsG IsL leastF mxI)
def oI : Option Int → P
  | none => .non
  | some i => .int i
def prP (p : Pr) : P := .tup [.int p.1, oI p.2]
abbrev pRs (rs : List Pr) : List P := rs.map prP
theorem pseq_prP (p : Pr) : pseq (prP p) = some [.int p.1, oI p.2] := rfl
def valsP (s : Option Int) (rs : List Pr) : List P := match s with
  | none => []
  | some s => pI (lowsF s rs)
/-- the fields of a need -/
structure Nd where
  s : Option Int
  rs : List Pr
  nv : Option Int
def ndP (c : Addr) (n : Nd) : P := .ins c [("start", oI n.s), ("rises", .tup (pRs n.rs)), ("never", oI n.nv), ("_values", .tup (valsP n.s n.rs))]
structure NOk (n : Nd) : Prop where
  s0 : ∀ v, n.s = some v → 0 ≤ v
  asc : Asc (-1) n.rs
  no : n.s = none → n.rs = []
  nv : ∀ v, n.nv = some v → ∃ s0, n.s = some s0 ∧ (∀ lo, ¬ Opn n.rs lo) ∧ s0 + wsum n.rs ≤ v
  len : n.rs.length ≤ 1000
theorem atI_map' {α : Type} {f : α → P} {xs : List α} {j : Nat} {x : α} (h : xs[j]? = some x) : atI (xs.map f) (j : Int) = some (f x) := atI_nat (by rw [List.getElem?_map, h]; rfl)
def nval (n : Nd) (k : Option Int) : Option Int := match n.s, k with
  | some s, some k => some (val s n.rs k)
  | _, _ => n.nv
def firstF (n : Nd) : Option Int := match n.s with
  | none => none
  | some s => leastF s n.rs
def mineF (n : Nd) : Nd := match n.s.bind (flatF n.rs 0) with
  | none => ⟨some 0, [(0, none)], none⟩
  | some l => ⟨some 0, if 0 < l then [(0, some l)] else [], if n.nv = none then none else some l⟩
theorem nok_id : NOk ⟨some 0, [(0, none)], none⟩ := ⟨(fun v h => by cases h; exact Int.le_refl _), ⟨by decide, rfl⟩, (fun h => by cases h), (fun v h => by cases h), by decide⟩
theorem not_opn_nil (lo : Int) : ¬ Opn [] lo := fun ⟨pre, e⟩ => by cases pre <;> cases e
theorem not_opn_one (a b lo : Int) : ¬ Opn [(a, some b)] lo := fun ⟨pre, e⟩ => by
  have := NM.opn_iff.mpr ⟨pre, e⟩
  simp at this
theorem nok_mine {n : Nd} (ok : NOk n) : NOk (mineF n) := by
  unfold mineF
  cases e : n.s.bind (flatF n.rs 0) with
  | none => exact nok_id
  | some l =>
    obtain ⟨s, hs, hf⟩ := Option.bind_eq_some_iff.mp e
    have h0 := (NM.flat_isG ok.asc (ok.s0 s hs) hf).1
    simp only
    by_cases hl : 0 < l
    · rw [if_pos hl]
      refine ⟨(fun v h => by cases h; exact Int.le_refl _), ⟨by decide, hl, trivial⟩, (fun h => by cases h), fun v h => ?_, by show 1 ≤ 1000; decide⟩
      simp only at h
      split at h
      · cases h
      · cases h
        exact ⟨0, rfl, not_opn_one 0 l, by show (0 : Int) + wsum [(0, some l)] ≤ l; simp [wsum]⟩
    · rw [if_neg hl]
      refine ⟨(fun v h => by cases h; exact Int.le_refl _), trivial, (fun h => by cases h), fun v h => ?_, by show 0 ≤ 1000; decide⟩
      simp only at h
      split at h
      · cases h
      · cases h
        exact ⟨0, rfl, not_opn_nil, by show (0 : Int) + wsum [] ≤ l; simp [wsum]; omega⟩
def theirsF (n : Nd) : Nd := match firstF n with
  | none => ⟨none, [], none⟩
  | some x => ⟨some x, [(x, none)], none⟩
theorem nok_none : NOk ⟨none, [], none⟩ := ⟨(fun v h => by cases h), trivial, fun _ => rfl, (fun v h => by cases h), by decide⟩
theorem first_nn {n : Nd} {x : Int} (ok : NOk n) (e : firstF n = some x) : 0 ≤ x := by
  unfold firstF at e
  cases hs : n.s with
  | none => rw [hs] at e; cases e
  | some s => rw [hs] at e; exact (NM.least_isL ok.asc (ok.s0 s hs) e).1
theorem nok_theirs {n : Nd} (ok : NOk n) : NOk (theirsF n) := by
  unfold theirsF
  cases e : firstF n with
  | none => exact nok_none
  | some x =>
    have := first_nn ok e
    exact ⟨(fun v h => by cases h; exact this), ⟨by show (-1 : Int) < x; omega, rfl⟩, (fun h => by cases h), (fun v h => by cases h), by show 1 ≤ 1000; decide⟩
def endlessF (n : Nd) : Nd := ⟨firstF n, [], firstF n⟩
theorem nok_endless {n : Nd} (ok : NOk n) : NOk (endlessF n) :=
  ⟨fun v h => first_nn ok h, trivial, fun _ => rfl, fun v h => ⟨v, h, not_opn_nil, by simp [endlessF, wsum]⟩, by show 0 ≤ 1000; decide⟩
theorem shp_oI (o : Option Int) : Shp (oI o) 0 := by cases o; exact shp_non; exact shp_int _
theorem shp_prP (p : Pr) : Shp (prP p) 1 := by
  have := Shp.tup (f := fun x : Option Int => oI x) (xs := [some p.1, p.2]) (n := 0) fun x _ => shp_oI x
  exact this
theorem shp_rs (rs : List Pr) : Shp (.tup (pRs rs)) 2 := .tup fun p _ => shp_prP p
def KOk (ks : List (Option Int)) : Prop := ∀ k ∈ ks, ∀ v, k = some v → 0 ≤ v
theorem KOk.app {as bs : List (Option Int)} (a : KOk as) (b : KOk bs) : KOk (as ++ bs) := fun k hk => (List.mem_append.mp hk).elim (a k) (b k)
theorem KOk.one {v : Int} {as : List (Option Int)} (h : 0 ≤ v) (a : KOk as) : KOk (some v :: as) := fun k hk w e => by
  rcases List.mem_cons.mp hk with rfl | hk
  · cases e; exact h
  · exact a k hk w e
theorem KOk.nil : KOk [] := fun _ h => absurd h List.not_mem_nil
theorem p60 : (10 : Int) ^ (60 : Int).toNat = 10 ^ 60 := rfl
abbrev needL (n : Nd) : P := .lst [oI n.s, .tup (pRs n.rs), oI n.nv]
theorem getD_rg {rs : List Int} (h : ∀ d ∈ rs, 0 ≤ d ∧ d < 1000000) (k : Nat) : 0 ≤ rs.getD k 0 ∧ rs.getD k 0 < 1000000 := by
  rw [List.getD_eq_getElem?_getD]
  cases e : rs[k]? with
  | none => decide
  | some r => exact h r (List.mem_of_getElem? e)
theorem nok_rest {rs : List Pr} (ha : Asc (-1) rs) (hl : rs.length ≤ 1000) {s : Int} (h0 : 0 ≤ s) : NOk ⟨some s, rs, none⟩ :=
  ⟨(fun v h => by cases h; exact h0), ha, (fun h => by cases h), (fun v h => by cases h), hl⟩
/-- what a need that is drawn is like -/
structure NBd (n : Nd) : Prop where
  ok : NOk n
  bd : ∀ s, n.s = some s → bndF s n.rs + 1 ≤ 10 ^ 40
  len : n.rs.length ≤ 10
  sb : ∀ s, n.s = some s → s ≤ 10 ^ 31
  nb : ∀ v, n.nv = some v → v ≤ 10 ^ 40
/-- the pairs as they grow -/
structure Gw (i : Nat) (s : Int) (rs : List Pr) (top edge : Int) : Prop where
  asc : Asc (-1) rs
  cl : ∀ p ∈ rs, ∃ h, p.2 = some h ∧ h < edge ∧ p.1 ≤ h ∧ 0 ≤ p.1
  len : rs.length = i
  top : top = s + wsum rs
  w : wsum rs ≤ 1000000000000000000000 * (i : Int)
  e0 : 0 ≤ edge
  e1 : edge ≤ 6 + 1000000000000000000000 * (i : Int)
theorem Gw.step {i : Nat} {s top edge w d : Int} {rs : List Pr} (g : Gw i s rs top edge) (h0 : 1 ≤ w) (h1 : w ≤ 600000000000000000000) (h2 : 1 ≤ d) (h3 : d ≤ 6) : Gw (i + 1) s (rs ++ [(edge, some (edge + w))]) (top + w) (edge + w + d) where
  asc := g.asc.snoc (fun p hp => by obtain ⟨h, e, h4, _⟩ := g.cl p hp; exact ⟨h, e, h4⟩) (by have := g.e0; omega) (fun h e => by cases e; omega)
  cl := fun p hp => by
    rcases List.mem_append.mp hp with hp | hp
    · obtain ⟨h, e, h4, h5, h6⟩ := g.cl p hp
      exact ⟨h, e, by omega, h5, h6⟩
    · rw [List.mem_singleton.mp hp]
      have := g.e0
      exact ⟨_, rfl, by omega, by show edge ≤ edge + w; omega, this⟩
  len := by rw [List.length_append, g.len]; rfl
  top := by rw [NM.wsum_snoc, g.top]; simp only; omega
  w := by rw [NM.wsum_snoc]; have := g.w; simp only; omega
  e0 := by have := g.e0; omega
  e1 := by have := g.e1; omega
theorem p30 : (10 : Int) ^ (30 : Int).toNat = 1000000000000000000000000000000 := by decide +kernel
theorem p20 : (10 : Int) ^ (20 : Int).toNat = 100000000000000000000 := by decide +kernel
theorem cut_init (xs : List P) (v : P) : cutP (xs ++ [v]) none (some (-1)) = xs := by
  unfold cutP
  have h1 : HT.sIx (xs ++ [v]).length 0 none = 0 := rfl
  have h2 : HT.sIx (xs ++ [v]).length (xs ++ [v]).length (some (-1)) = xs.length := by
    unfold HT.sIx
    simp
    try omega
  rw [h1, h2, List.drop_zero, Nat.sub_zero, List.take_left']
  rfl
theorem lt600 {a : Int} (h : a < 2 ^ 600) (h0 : 0 < a) {i : Int} : CDivW i a := ⟨h0, Nat.lt_trans (log_lt (n := 600) (by omega) h (by decide)) (by decide)⟩
abbrev itN (n : Nd) (j : Nat) (k : Option Int) : Option Int := RM.it (nval n) j k
theorem nval_fn (n : Nd) : nval n = RM.fn n.s n.rs n.nv := by
  funext k
  unfold nval RM.fn
  cases n.s <;> cases k <;> rfl
theorem NOk.nvn {n : Nd} (ok : NOk n) (h : n.s = none) : n.nv = none := by
  cases e : n.nv with
  | none => rfl
  | some v => obtain ⟨s0, h0, _⟩ := ok.nv v e; rw [h] at h0; cases h0
theorem mono_n {n : Nd} (ok : NOk n) : RM.Mono (nval n) := by
  rw [nval_fn]
  exact RM.fn_mono ok.asc ok.nvn ok.nv
def minO (a b : Option Int) : Option Int := match a, b with
  | none, b => b
  | some a, none => some a
  | some a, some b => some (if b < a then b else a)
def excB (a b : Option Int) : Bool := match b with
  | none => false
  | some b => match a with
    | none => true
    | some a => decide (a > b)
structure Sz (n : Nd) : Prop where
  s : ∀ s, n.s = some s → s < 2 ^ 390
  nv : ∀ v, n.nv = some v → v < 2 ^ 390
def KIn (k : Option Int) : Prop := ∀ v, k = some v → 0 ≤ v ∧ v < 2 ^ 500
/-- a stride: its change, and how many turns it holds for -/
structure StrO (n : Nd) (k ch : Int) (m : Option Int) : Prop where
  pos : ∀ M, m = some M → 1 ≤ M
  str : ∀ j : Nat, (∀ M, m = some M → (j : Int) ≤ M) → RM.Str (nval n) k ch j
theorem val_0 {s : Int} {rs : List Pr} (ha : Asc (-1) rs) : val s rs 0 = s := by
  unfold val
  rw [NM.vsum_le ha (by omega)]
  omega
theorem val_up {s k : Int} {rs : List Pr} (ha : Asc (-1) rs) (hk : 0 ≤ k) : val s rs k ≤ s + k := by
  have := (NM.val_lip (s := s) ha hk).2
  rw [val_0 ha] at this
  omega
theorem minO_le {m : Int} {o : Option Int} {x : Int} (h : minO (some m) o = some x) : x ≤ m ∧ (∀ M, o = some M → x ≤ M) := by
  cases o with
  | none => cases h; exact ⟨Int.le_refl _, fun M h => by cases h⟩
  | some b =>
    have e : (if b < m then b else m) = x := Option.some.inj h
    constructor
    · split at e <;> omega
    · intro M hM; cases hM; split at e <;> omega
theorem minO_pos {m : Int} {o : Option Int} (h : 1 ≤ m) (g : ∀ M, o = some M → 1 ≤ M) : ∃ x, minO (some m) o = some x ∧ 1 ≤ x := by
  cases o with
  | none => exact ⟨m, rfl, h⟩
  | some b =>
    have := g b rfl
    exact ⟨_, rfl, by split <;> omega⟩
theorem aff_some {v p : Int} : RM.Aff p (some v) ↔ v ≤ p := Iff.rfl
theorem aff_none {p : Int} : ¬ RM.Aff p none := fun h => h
theorem exc_some {v p : Int} : RM.Exc p (some v) ↔ p < v := by show ¬ v ≤ p ↔ _; omega
theorem exc_none {p : Int} : RM.Exc p none := fun h => h
theorem it_none {n : Nd} (h : n.nv = none) (j : Nat) : RM.it (nval n) j none = none := RM.it_fix (by unfold nval; cases n.s <;> exact h) j
theorem it_sn {n : Nd} (h : n.s = none) (hn : n.nv = none) (k : Option Int) (j : Nat) : RM.it (nval n) (j + 1) k = none := by
  show RM.it (nval n) j (nval n k) = none
  rw [show nval n k = none by unfold nval; rw [h]; cases k <;> exact hn]
  exact it_none hn j
theorem nv_nn {n : Nd} {v : Int} (ok : NOk n) (h : n.nv = some v) : 0 ≤ v := by
  obtain ⟨s0, h0, hc, hw⟩ := ok.nv v h
  have := ok.s0 s0 h0
  have := NM.wsum_ge (k := 0) ok.asc hc
  have := NM.vsum_nn (k := 0) ok.asc
  omega
/-- from k on nothing falls to the purse -/
theorem no_aff {n : Nd} {s k p : Int} (ok : NOk n) (hs : n.s = some s) (h : p < k) (g : k ≤ val s n.rs k) (j : Nat) : ¬ RM.Aff p (itN n j (some k)) := fun a => by
  have e : nval n (some k) = some (val s n.rs k) := by unfold nval; rw [hs]
  have := RM.le_trans (RM.up (mono_n ok) (k := some k) (by rw [e]; exact g) (Nat.zero_le j)) a
  have : k ≤ p := this
  omega
theorem no_exc {n : Nd} {s k p : Int} (ok : NOk n) (hs : n.s = some s) (h : k ≤ p) (g : val s n.rs k ≤ k) (j : Nat) : ¬ RM.Exc p (itN n j (some k)) := fun a => by
  have e : nval n (some k) = some (val s n.rs k) := by unfold nval; rw [hs]
  exact a (RM.le_trans (RM.dn (mono_n ok) (k := some k) (by rw [e]; exact g) (Nat.zero_le j)) h)
theorem it_kin {n : Nd} {s v : Int} (ok : NOk n) (hs : n.s = some s) (k : Int) : 0 ≤ val s n.rs k := NM.val_nn ok.asc (ok.s0 s hs)
theorem it_nn {n : Nd} (ok : NOk n) : ∀ (j : Nat) (k : Option Int), (∀ v, k = some v → 0 ≤ v) → ∀ v, itN n j k = some v → 0 ≤ v
  | 0, k, h, v, e => h v e
  | j + 1, k, h, v, e => it_nn ok j (nval n k) (fun u hu => by
    unfold nval at hu
    split at hu
    · rename_i s x hs
      cases hu
      exact NM.val_nn ok.asc (ok.s0 _ hs)
    · exact nv_nn ok hu) v e
theorem wk_nn {n : Nd} {P : Option Int → Prop} {k0 : Option Int} {c : Nat} {v : Int} (ok : NOk n) (h0 : KIn k0) (w : RM.Wk (nval n) P k0 c (some v)) : 0 ≤ v :=
  it_nn ok c k0 (fun v e => (h0 v e).1) v w.here
/-- a leap down -/
theorem leap_dn {n : Nd} {k ch p x : Int} {m : Option Int} {c : Nat} {k0 : Option Int} (st : StrO n k ch m) (w : RM.Wk (nval n) (RM.Aff p) k0 c (some k)) (hp : p < k) (hc : ch < 0)
    (hx : minO (some ((k - p - 1) / -ch + 1)) m = some x) : ∃ c2 : Nat, (c2 : Int) = c + x ∧ 1 ≤ x ∧ k + x * ch < k ∧ RM.Wk (nval n) (RM.Aff p) k0 c2 (some (k + x * ch)) ∧ x ≤ (k - p - 1) / -ch + 1 := by
  obtain ⟨y, hy, h1⟩ := minO_pos (m := (k - p - 1) / -ch + 1) (o := m) (by have := RM.div_nn (show 0 ≤ k - p - 1 by omega) (show 0 < -ch by omega); omega) st.pos
  rw [hx] at hy
  cases hy
  obtain ⟨g1, g2⟩ := minO_le hx
  obtain ⟨j, rfl⟩ := Int.eq_ofNat_of_zero_le (show 0 ≤ x by omega)
  refine ⟨c + j, by omega, h1, ?_, w.stride (st.str j g2) fun i hi a => ?_, g1⟩
  · have := RM.mul_ge h1 (show 1 ≤ -ch by omega)
    rw [Int.mul_neg] at this
    omega
  · have e := RM.div_le (show 0 < -ch by omega) (show (i : Int) ≤ (k - p - 1) / -ch by omega)
    rw [Int.mul_neg] at e
    have : k + i * ch ≤ p := a
    omega
theorem leap_up {n : Nd} {k ch p x : Int} {m : Option Int} {c : Nat} {k0 : Option Int} (st : StrO n k ch m) (w : RM.Wk (nval n) (RM.Exc p) k0 c (some k)) (hp : k ≤ p) (hc : 0 < ch)
    (hx : minO (some ((p - k) / ch + 1)) m = some x) : ∃ c2 : Nat, (c2 : Int) = c + x ∧ 1 ≤ x ∧ k < k + x * ch ∧ RM.Wk (nval n) (RM.Exc p) k0 c2 (some (k + x * ch)) ∧ x ≤ (p - k) / ch + 1 := by
  obtain ⟨y, hy, h1⟩ := minO_pos (m := (p - k) / ch + 1) (o := m) (by have := RM.div_nn (show 0 ≤ p - k by omega) (show 0 < ch by omega); omega) st.pos
  rw [hx] at hy
  cases hy
  obtain ⟨g1, g2⟩ := minO_le hx
  obtain ⟨j, rfl⟩ := Int.eq_ofNat_of_zero_le (show 0 ≤ x by omega)
  refine ⟨c + j, by omega, h1, ?_, w.stride (st.str j g2) fun i hi a => ?_, g1⟩
  · have := RM.mul_ge h1 (show 1 ≤ ch by omega)
    omega
  · have e := RM.div_le (show 0 < ch by omega) (show (i : Int) ≤ (p - k) / ch by omega)
    have := exc_some.mp a
    omega
/-- a leap of at most so many turns -/
theorem leap_lim {n : Nd} {k ch x l : Int} {m : Option Int} {r : Option Int} (st : StrO n k ch m) (hl : 1 ≤ l) (hr : itN n l.toNat (some k) = r)
    (hx : minO (some l) m = some x) : 1 ≤ x ∧ x ≤ l ∧ itN n (l - x).toNat (some (k + x * ch)) = r := by
  obtain ⟨y, hy, h1⟩ := minO_pos (m := l) (o := m) hl st.pos
  rw [hx] at hy
  cases hy
  obtain ⟨g1, g2⟩ := minO_le hx
  obtain ⟨j, rfl⟩ := Int.eq_ofNat_of_zero_le (show 0 ≤ x by omega)
  refine ⟨h1, g1, ?_⟩
  rw [← hr, show l.toNat = j + (l - (j : Int)).toNat by omega]
  show RM.it _ _ _ = RM.it _ _ _
  rw [RM.it_add, (st.str j g2).it j (Nat.le_refl _)]
theorem leap_nn {n : Nd} {k ch x l : Int} {m : Option Int} (ok : NOk n) (h0 : 0 ≤ k) (st : StrO n k ch m) (hx : minO (some l) m = some x) (hx0 : 0 ≤ x) : 0 ≤ k + x * ch := by
  obtain ⟨g1, g2⟩ := minO_le hx
  obtain ⟨j, rfl⟩ := Int.eq_ofNat_of_zero_le hx0
  exact it_nn ok j (some k) (fun v e => by cases e; exact h0) _ ((st.str j g2).it j (Nat.le_refl _))
def maxO (a b : Option Int) : Option Int := if excB a b then a else b
abbrev itL (n : Nd) (k : Option Int) (m : Nat) : List (Option Int) := (List.range m).map fun j => RM.it (nval n) j k
theorem itL_len (n : Nd) (k : Option Int) (m : Nat) : (itL n k m).length = m := by rw [List.length_map, List.length_range]
theorem itL_succ (n : Nd) (k : Option Int) (m : Nat) : itL n k (m + 1) = itL n k m ++ [RM.it (nval n) m k] := by
  unfold itL
  rw [List.range_succ, List.map_append]; rfl
theorem itL_get {n : Nd} {k : Option Int} {m j : Nat} (h : j < m) : (itL n k m)[j]? = some (RM.it (nval n) j k) := by
  rw [List.getElem?_map, List.getElem?_range h]; rfl
theorem itL_get' {n : Nd} {k : Option Int} {m j : Nat} {x : Option Int} (h : (itL n k m)[j]? = some x) : j < m ∧ x = RM.it (nval n) j k := by
  have hj : j < m := by have := lt_of_get h; rw [itL_len] at this; exact this
  rw [itL_get hj] at h
  exact ⟨hj, (Option.some.inj h).symm⟩
def leB (a b : Option Int) : Bool := match b with
  | none => true
  | some b => match a with
    | none => false
    | some a => decide (a ≤ b)
theorem leB_iff (a b : Option Int) : leB a b = true ↔ RM.le a b := by
  cases b with
  | none => exact ⟨fun _ => RM.le_none a, fun _ => rfl⟩
  | some b => cases a with
    | none => exact ⟨fun h => (by cases h), fun h => False.elim h⟩
    | some a => exact decide_eq_true_iff
theorem excB_iff (a b : Option Int) : excB a b = true ↔ ¬ RM.le a b := by
  cases b with
  | none => exact ⟨fun h => (by cases h), fun h => absurd (RM.le_none a) h⟩
  | some b => cases a with
    | none => exact ⟨fun _ h => h, fun _ => rfl⟩
    | some a =>
      show decide (a > b) = true ↔ ¬ a ≤ b
      rw [decide_eq_true_iff]; omega
def affB (p : Int) (x : Option Int) : Bool := match x with
  | none => false
  | some v => decide (v ≤ p)
theorem affB_iff (p : Int) (x : Option Int) : affB p x = true ↔ RM.Aff p x := leB_iff x (some p)
theorem eqv_oI (a b : Option Int) : PyData.eqv (oI a).toD (oI b).toD = decide (a = b) := by
  cases a with
  | none => cases b with
    | none => rfl
    | some b => rfl
  | some a => cases b with
    | none => rfl
    | some b =>
      show (a == b) = decide (some a = some b)
      simp
      rfl
theorem eqv_bl (a b : Bool) : (P.bl a).toD.eqv (P.bl b).toD = (a == b) := by cases a <;> cases b <;> decide +kernel
theorem eqv_eq {a b : Bool} (h : (P.bl a).toD.eqv (P.bl b).toD = true) : a = b := by rw [eqv_bl] at h; exact eq_of_beq h
theorem eqv_ne {a b : Bool} (h : (P.bl a).toD.eqv (P.bl b).toD = false) : a ≠ b := fun e => by rw [eqv_bl, e] at h; cases b <;> cases h
theorem minO_or (a b : Option Int) : minO a b = a ∨ minO a b = b := by
  cases a with
  | none => exact .inr rfl
  | some a => cases b with
    | none => exact .inl rfl
    | some b =>
      by_cases h : b < a
      · exact .inr (by show some (if b < a then b else a) = _; rw [if_pos h])
      · exact .inl (by show some (if b < a then b else a) = _; rw [if_neg h])
theorem minO_l (a b : Option Int) : RM.le (minO a b) a := by
  cases a with
  | none => exact RM.le_none _
  | some a => cases b with
    | none => exact RM.le_refl _
    | some b =>
      show (if b < a then b else a) ≤ a
      split <;> omega
theorem minO_r (a b : Option Int) : RM.le (minO a b) b := by
  cases b with
  | none => exact RM.le_none _
  | some b => cases a with
    | none => exact RM.le_refl _
    | some a =>
      show (if b < a then b else a) ≤ b
      split <;> omega
theorem maxO_or (a b : Option Int) : maxO a b = a ∨ maxO a b = b := by
  unfold maxO
  split
  · exact .inl rfl
  · exact .inr rfl
theorem maxO_l (a b : Option Int) : RM.le a (maxO a b) := by
  unfold maxO
  split
  · exact RM.le_refl _
  · rename_i h
    rw [excB_iff] at h
    exact Classical.byContradiction h
theorem maxO_r (a b : Option Int) : RM.le b (maxO a b) := by
  unfold maxO
  split
  · rename_i h
    rw [excB_iff] at h
    exact (RM.le_total a b).elim (fun g => absurd g h) id
  · exact RM.le_refl _
theorem leB_ff {a b : Option Int} (h : leB a b = false) : RM.le b a := by
  refine (RM.le_total a b).elim (fun g => ?_) id
  rw [(leB_iff a b).mpr g] at h
  cases h
def upN (pace flat e : Int) : Nd := ⟨some pace, [(0, some e), (e + flat, none)], none⟩
def dnN (base pace flat e : Int) : Nd := ⟨some base, [(base + pace, some e), (e + flat, none)], none⟩
theorem up_val {pace flat e k : Int} (h0 : 0 ≤ k) (he : 1 ≤ e) (hf : 1 ≤ flat) : nval (upN pace flat e) (some k) = some (if k ≤ e then k + pace else if k ≤ e + flat then e + pace else k + (pace - flat)) := by
  show some (val pace [(0, some e), (e + flat, none)] k) = _
  congr 1
  unfold val
  simp only [NM.vsum, NM.con_some, NM.con_none]
  split <;> split <;> (try split) <;> (try split) <;> omega
theorem dn_val {base pace flat e k : Int} (h0 : 0 ≤ k) (he : base + pace ≤ e) (hf : 1 ≤ flat) : nval (dnN base pace flat e) (some k) = some (if k ≤ e then (if k - pace > base then k - pace else base) else if k ≤ e + flat then e - pace else k - (pace + flat)) := by
  show some (val base [(base + pace, some e), (e + flat, none)] k) = _
  congr 1
  unfold val
  simp only [NM.vsum, NM.con_some, NM.con_none]
  split <;> split <;> (try split) <;> (try split) <;> (try split) <;> omega
structure UpB (pace flat e k p : Int) : Prop where
  f1 : 1 ≤ flat
  fp : flat < pace
  p1 : pace ≤ 2000
  e1 : 1 ≤ e
  e2 : e < 2 ^ 200
  k0 : 0 ≤ k
  k1 : k < 2 ^ 200
  p0 : 0 ≤ p
  p2 : p < 2 ^ 200
structure DnB (base pace flat e k p : Int) : Prop where
  b0 : 0 ≤ base
  b1 : base ≤ 2000
  f1 : 1 ≤ flat
  fp : flat < pace
  p1 : pace ≤ 2000
  e1 : base + pace ≤ e
  e2 : e < 2 ^ 200
  k0 : 0 ≤ k
  k1 : k < 2 ^ 200
  p0 : 0 ≤ p
  p2 : p < 2 ^ 200
theorem DnB.fall {base pace flat e k p : Int} (d : DnB base pace flat e k p) : RM.Fall (nval (dnN base pace flat e)) base pace e where
  low := by have := d.f1; have := d.fp; have := d.e1; omega
  pos := by have := d.f1; have := d.fp; omega
  fall := fun k h0 hk => by rw [dn_val h0 d.e1 d.f1, if_pos hk]
theorem DnB.low {base pace flat e k p : Int} (d : DnB base pace flat e k p) {v u : Int} (h0 : 0 ≤ v) (h : nval (dnN base pace flat e) (some v) = some u) : base ≤ u := by
  rw [dn_val h0 d.e1 d.f1] at h
  have h := Option.some.inj h
  have := d.f1
  have := d.fp
  have := d.e1
  split at h
  · split at h <;> omega
  · split at h <;> omega
theorem DnB.never {base pace flat e k p : Int} (d : DnB base pace flat e k p) (h : p < k) (hb : p < base) : RM.Least (fun j => RM.Aff p (RM.it (nval (dnN base pace flat e)) j (some k))) none := fun j => by
  have key : ∀ j : Nat, ∃ v, RM.it (nval (dnN base pace flat e)) j (some k) = some v ∧ 0 ≤ v ∧ p < v := fun j => by
    induction j with
    | zero => exact ⟨k, rfl, d.k0, h⟩
    | succ j ih =>
      obtain ⟨v, e1, h0, h1⟩ := ih
      have := d.b0
      have ev := dn_val (k := v) h0 d.e1 d.f1
      have := d.low h0 ev
      exact ⟨_, by rw [RM.it_succ, e1, ev], by omega, by omega⟩
  obtain ⟨v, e1, _, h1⟩ := key j
  show ¬ RM.Aff p (RM.it (nval (dnN base pace flat e)) j (some k))
  rw [e1]
  show ¬ v ≤ p
  omega
def cUp (step : Int) : Nd := ⟨some step, [(0, none)], none⟩
def cDn (step e : Int) : Nd := ⟨some e, [(e + step, none)], none⟩
theorem cUp_ok {step : Int} (h : 0 ≤ step) : NOk (cUp step) := nok_rest (rs := [(0, none)]) ⟨by decide, rfl⟩ (by show 1 ≤ 1000; decide) h
theorem cDn_ok {step e : Int} (h : 0 ≤ e) (g : 0 ≤ step) : NOk (cDn step e) := nok_rest (rs := [(e + step, none)]) ⟨by omega, rfl⟩ (by show 1 ≤ 1000; decide) h
theorem cUp_rise {step : Int} (h : 1 ≤ step) : RM.Rise (nval (cUp step)) step := ⟨by omega, fun k h0 => by
  show some (val step [(0, none)] k) = _
  congr 1
  unfold val
  simp only [NM.vsum, NM.con_none]
  split <;> omega⟩
theorem cDn_fall {step e E : Int} (h : 1 ≤ step) (he : e ≤ E) : RM.Fall (nval (cDn step e)) e step E := ⟨he, by omega, fun k h0 hk => by
  show some (val e [(e + step, none)] k) = _
  congr 1
  unfold val
  simp only [NM.vsum, NM.con_none]
  split <;> split <;> omega⟩
structure CB (step e k p L : Int) : Prop where
  s1 : 1 ≤ step
  s2 : step ≤ 2000
  e0 : 0 ≤ e
  e1 : e ≤ 2000
  k0 : 0 ≤ k
  k1 : k < 2 ^ 200
  p0 : 0 ≤ p
  p1 : p < 2 ^ 200
  l0 : 0 ≤ L
  l1 : L < 2 ^ 200
theorem kin {k : Int} (h : 0 ≤ k) (g : k < 2 ^ 200) : KIn (some k) := fun v e => by cases e; exact ⟨h, by omega⟩
theorem dr_get {rs : List Int} (hl : rs.length = 40) (hr : ∀ d ∈ rs, 0 ≤ d ∧ d < 1000000) {j : Nat} (hj : j < 40) : ∃ d, atI (pI rs) (j : Int) = some (.int d) ∧ 0 ≤ d ∧ d < 1000000 := by
  obtain ⟨d, hd⟩ : ∃ d, rs[j]? = some d := ⟨_, List.getElem?_eq_getElem (by omega)⟩
  exact ⟨d, atI_map' hd, hr d (List.mem_of_getElem? hd)⟩
theorem upN_ok {pace flat e : Int} (h : 0 ≤ pace) (he : 1 ≤ e) (hf : 1 ≤ flat) : NOk (upN pace flat e) := nok_rest (rs := [(0, some e), (e + flat, none)]) ⟨by decide, by omega, by omega, rfl⟩ (by show 2 ≤ 1000; decide) h
theorem dnN_ok {base pace flat e k p : Int} (d : DnB base pace flat e k p) (h : base + pace < e) : NOk (dnN base pace flat e) := by
  have := d.b0
  have := d.f1
  have := d.fp
  exact nok_rest (rs := [(base + pace, some e), (e + flat, none)]) ⟨by omega, h, by omega, rfl⟩ (by show 2 ≤ 1000; decide) d.b0
/-- a walk that begins upward ends highest -/
theorem high_up {n : Nd} (ok : NOk n) {k : Option Int} (h : RM.le k (nval n k)) (L : Nat) : maxO k (RM.it (nval n) L k) = RM.it (nval n) L k := by
  have := RM.up (mono_n ok) h (Nat.zero_le L)
  unfold maxO
  rw [if_neg]
  rw [excB_iff]
  exact fun g => g this
theorem pick6 (x : Int) : ∃ L : Nat, L ≤ 40 ∧ atI [P.int 0, .int 1, .int 7, .int 40, .int 3, .int 2] (x % 6) = some (.int (L : Int)) := by
  have h0 := Int.emod_nonneg x (show (6 : Int) ≠ 0 by decide)
  have h1 := Int.emod_lt_of_pos x (show (0 : Int) < 6 by decide)
  generalize x % 6 = y at *
  obtain ⟨m, rfl⟩ := Int.eq_ofNat_of_zero_le h0
  have hm : m < 6 := by omega
  match m, hm with
  | 0, _ => exact ⟨0, by decide, rfl⟩
  | 1, _ => exact ⟨1, by decide, rfl⟩
  | 2, _ => exact ⟨7, by decide, rfl⟩
  | 3, _ => exact ⟨40, by decide, rfl⟩
  | 4, _ => exact ⟨3, by decide, rfl⟩
  | 5, _ => exact ⟨2, by decide, rfl⟩
theorem md60 (x : Int) : 0 ≤ x % 10 ^ 60 ∧ x % 10 ^ 60 < 2 ^ 200 := by omega
theorem NBd.sz {n : Nd} (h : NBd n) : Sz n := ⟨fun s e => by have := h.sb s e; omega, fun v e => by have := h.nb v e; omega⟩
/-! ### are_rises -/
abbrev s_are_rises : Stmt := topS 7
theorem sc_are_rises : FnScope ["pairs", "before", "low", "high"] ["pairs"] (defScope s_are_rises) := ⟨rfl, rfl, rfl, by decide +kernel, rfl, by decide +kernel, by decide +kernel⟩
def fs_are_rises (cNeed : Addr) : FSp := fun ds Q => ∃ (t : Bool) (rs : List Pr), ds = [.sh (sq t (pRs rs))] ∧ Q (.sh (.bl (ascB (some (-1)) rs))) ds
theorem ok_are_rises {Pg : Program} {w : World} {K : PySem.W.Frag} {mg : Str → Option Value} {base : Heap} {a : Addr} {fd : FuncData} (F : L2.Fun K "are_rises" "are_rises" s_are_rises a fd)
    {cNeed : Addr} (T : Txt K mg cNeed) :
    FnOk Pg w K mg base CX0 1 a fd ["pairs"] (spD K (fs_are_rises cNeed)) := by
  have n_Need_start : ClsA K cNeed "start" := ⟨T.cl_Need, T.n_Need_start⟩
  have n_Need_rises : ClsA K cNeed "rises" := ⟨T.cl_Need, T.n_Need_rises⟩
  have n_Need_never : ClsA K cNeed "never" := ⟨T.cl_Need, T.n_Need_never⟩
  have n_Need__values : ClsA K cNeed "_values" := ⟨T.cl_Need, T.n_Need__values⟩
  have is_Need := T.is_Need
  refine Fun.okD [] F sc_are_rises (fun ds QD h => ?_) (fun cdv A outer s H E hr => ⟨_, _, (dss_cons (ds_asg (de_un un_neg us_neg de_int) (dg_name (pg_name (i := 1) sc_are_rises.nd rfl (by first | exact .inl rfl | exact .inr rfl))))
    (dss_cons (ds_for PassesOwn.never rfl (di_seq (de_v 0 (pv 0))) (dg_seq (fun h => pg_tup rfl h) (fun h => pg_unl rfl h) (dgs_cons (dg_name (pg_name (i := 2) sc_are_rises.nd rfl (by first | exact .inl rfl | exact .inr rfl))) (dgs_cons (dg_name (pg_name (i := 3) sc_are_rises.nd rfl (by first | exact .inl rfl | exact .inr rfl))) dgs_nil)))
    (dss_cons (ds_if (DW.pt (dw_or (dt_cmp op_isN os_isN (de_v 1 (pv 1)) de_non (nomark _)) (dw_or (dt_cmp op_le os_le (de_v 2 (pv 2)) (de_v 1 (pv 1)) (nomark _)) (dw_or1 (DW.pt (dw_and (dt_cmp op_notN os_notN (de_v 3 (pv 3)) de_non (nomark _)) (dw_and1 (dt_cmp op_le os_le (de_v 3 (pv 3)) (de_v 2 (pv 2)) (nomark _)))))))))
    (dss_one (ds_ret de_bl))
    dss_nil)
    (dss_one (ds_asg (de_v 3 (pv 3)) (dg_name (pg_name (i := 1) sc_are_rises.nd rfl (by first | exact .inl rfl | exact .inr rfl)))))))
    (dss_one (ds_ret de_bl)))), fun ds QD h => ?_⟩)
  · first
      | (obtain ⟨rfl, _⟩ := h; exact ⟨rfl, rfl⟩)
      | (obtain ⟨_, rfl, _⟩ := h; exact ⟨rfl, rfl⟩)
      | (obtain ⟨_, _, rfl, _⟩ := h; exact ⟨rfl, rfl⟩)
      | (obtain ⟨_, _, _, rfl, _⟩ := h; exact ⟨rfl, rfl⟩)
      | (obtain ⟨_, _, _, _, rfl, _⟩ := h; exact ⟨rfl, rfl⟩)
      | (obtain ⟨_, _, _, _, _, rfl, _⟩ := h; exact ⟨rfl, rfl⟩)
      | (obtain ⟨_, _, _, _, _, _, rfl, _⟩ := h; exact ⟨rfl, rfl⟩)
      | (obtain ⟨_, _, _, _, _, _, _, rfl, _⟩ := h; exact ⟨rfl, rfl⟩)
      | (obtain ⟨_, _, _, _, _, _, _, _, rfl, _⟩ := h; exact ⟨rfl, rfl⟩)
      | (obtain ⟨_, _, _, _, _, _, _, _, _, rfl, _⟩ := h; exact ⟨rfl, rfl⟩)
      | (obtain ⟨_, _, _, _, _, _, _, _, _, _, rfl, _⟩ := h; exact ⟨rfl, rfl⟩)
      | (obtain ⟨_, _, _, _, _, _, _, _, _, _, _, rfl, _⟩ := h; exact ⟨rfl, rfl⟩)
  · obtain ⟨t, rs, rfl, q⟩ := h
    walk_at "go"
    rw [pseq_sq]
    conv => whnf
    refine ⟨fun i env => ∃ b lv hv, env = [some (.sh (sq t (pRs rs))), some (.sh (oI b)), lv, hv] ∧ ascB b (rs.drop i) = ascB (some (-1)) rs, ⟨some (-1), none, none, rfl, rfl⟩, fun i p e hp hI => ?_, fun e hI => ?_⟩
    · obtain ⟨b, lv, hv, rfl, hb⟩ := hI
      obtain ⟨⟨lo, hi⟩, hr, rfl⟩ := map_get hp
      have hd : rs.drop i = (lo, hi) :: rs.drop (i + 1) := by
        rw [List.drop_eq_getElem_cons (lt_of_get hr)]
        congr 1
        exact Option.some.inj ((List.getElem?_eq_getElem (lt_of_get hr)).symm.trans hr)
      rw [hd] at hb
      cases b with
      | none =>
        walk_at "au"
        rw [← hb] at q
        exact q
      | some b =>
        cases hi with
        | none =>
          walk_at "au"
          · rw [← hb, show ascB (some b) ((lo, none) :: rs.drop (i + 1)) = false by simp [ascB]; omega] at q
            exact q
          · refine ⟨none, _, _, rfl, ?_⟩
            rw [← hb]
            simp [ascB]; omega
        | some g =>
          walk_at "au"
          · rw [← hb, show ascB (some b) ((lo, some g) :: rs.drop (i + 1)) = false by simp [ascB]; omega] at q
            exact q
          · rw [← hb, show ascB (some b) ((lo, some g) :: rs.drop (i + 1)) = false by simp [ascB]; omega] at q
            exact q
          · refine ⟨some g, _, _, rfl, ?_⟩
            rw [← hb]
            simp [ascB]; omega
    · obtain ⟨b, lv, hv, rfl, hb⟩ := hI
      rw [show (rs.map prP).length = rs.length from List.length_map _, List.drop_length] at hb
      rw [← hb] at q
      cases b <;> exact ⟨rfl, q⟩
/-! ### is_open -/
abbrev s_is_open : Stmt := topS 8
theorem sc_is_open : FnScope ["rises"] ["rises"] (defScope s_is_open) := ⟨rfl, rfl, rfl, by decide +kernel, rfl, by decide +kernel, by decide +kernel⟩
def fs_is_open (cNeed : Addr) : FSp := fun ds Q => ∃ (t : Bool) (rs : List Pr), ds = [.sh (sq t (pRs rs))] ∧ rs.length ≤ 1000 ∧ Q (.sh (.bl (NM.opnB rs))) ds
theorem ok_is_open {Pg : Program} {w : World} {K : PySem.W.Frag} {mg : Str → Option Value} {base : Heap} {a : Addr} {fd : FuncData} (F : L2.Fun K "is_open" "is_open" s_is_open a fd)
    (m_len : mg "len" = none)
    {cNeed : Addr} (T : Txt K mg cNeed) :
    FnOk Pg w K mg base CX0 1 a fd ["rises"] (spD K (fs_is_open cNeed)) := by
  have n_Need_start : ClsA K cNeed "start" := ⟨T.cl_Need, T.n_Need_start⟩
  have n_Need_rises : ClsA K cNeed "rises" := ⟨T.cl_Need, T.n_Need_rises⟩
  have n_Need_never : ClsA K cNeed "never" := ⟨T.cl_Need, T.n_Need_never⟩
  have n_Need__values : ClsA K cNeed "_values" := ⟨T.cl_Need, T.n_Need__values⟩
  have is_Need := T.is_Need
  refine Fun.okD [] F sc_is_open (fun ds QD h => ?_) (fun cdv A outer s H E hr => ⟨_, _, (dss_one (ds_ret (de_and (de_cmp op_gt os_gt (de_cb (fun h => pe_callB call_len (by rfl) m_len PySem.boot_len h) cs_len (da_cons (de_v 0 (pv 0)) da_nil)) de_int (nomark _)) (de_one (de_cmp op_isN os_isN (de_ix ix_seq os_ix (de_ix ix_seq os_ix (de_v 0 (pv 0)) (de_un un_neg us_neg de_int)) de_int) de_non (nomark _)))))), fun ds QD h => ?_⟩)
  · first
      | (obtain ⟨rfl, _⟩ := h; exact ⟨rfl, rfl⟩)
      | (obtain ⟨_, rfl, _⟩ := h; exact ⟨rfl, rfl⟩)
      | (obtain ⟨_, _, rfl, _⟩ := h; exact ⟨rfl, rfl⟩)
      | (obtain ⟨_, _, _, rfl, _⟩ := h; exact ⟨rfl, rfl⟩)
      | (obtain ⟨_, _, _, _, rfl, _⟩ := h; exact ⟨rfl, rfl⟩)
      | (obtain ⟨_, _, _, _, _, rfl, _⟩ := h; exact ⟨rfl, rfl⟩)
      | (obtain ⟨_, _, _, _, _, _, rfl, _⟩ := h; exact ⟨rfl, rfl⟩)
      | (obtain ⟨_, _, _, _, _, _, _, rfl, _⟩ := h; exact ⟨rfl, rfl⟩)
      | (obtain ⟨_, _, _, _, _, _, _, _, rfl, _⟩ := h; exact ⟨rfl, rfl⟩)
      | (obtain ⟨_, _, _, _, _, _, _, _, _, rfl, _⟩ := h; exact ⟨rfl, rfl⟩)
      | (obtain ⟨_, _, _, _, _, _, _, _, _, _, rfl, _⟩ := h; exact ⟨rfl, rfl⟩)
      | (obtain ⟨_, _, _, _, _, _, _, _, _, _, _, rfl, _⟩ := h; exact ⟨rfl, rfl⟩)
  · obtain ⟨t, rs, rfl, hl, q⟩ := h
    rcases Nat.eq_zero_or_pos rs.length with h0 | h0
    · have e := List.length_eq_zero_iff.mp h0
      subst e
      cases t <;> walk_at "au" <;> first | exact q | (exfalso; simp at *)
    · obtain ⟨⟨lo, hi⟩, hp⟩ : ∃ p, rs[rs.length - 1]? = some p := ⟨_, List.getElem?_eq_getElem (by omega)⟩
      have e : NM.opnB rs = DL.isNon (oI hi) := by
        unfold NM.opnB
        rw [List.getLast?_eq_getElem?, hp]
        cases hi <;> rfl
      rw [e] at q
      cases t
      all_goals
        walk_at "au"
        rotate_left
        · exfalso
          simp only [pRs, List.length_map] at *
          omega
        refine ⟨_, atI_m1 (last_map hp), ?_⟩
        walk_at "au"
        exact q
/-! ### values_at_lows -/
abbrev s_values_at_lows : Stmt := topS 9
theorem sc_values_at_lows : FnScope ["start", "rises", "found", "value", "low", "high"] ["start", "rises"] (defScope s_values_at_lows) := ⟨rfl, rfl, rfl, by decide +kernel, rfl, by decide +kernel, by decide +kernel⟩
def fs_values_at_lows (cNeed : Addr) : FSp := fun ds Q => ∃ (t : Bool) (s : Int) (rs : List Pr), ds = [.sh (.int s), .sh (sq t (pRs rs))] ∧ rs.length ≤ 1000 ∧ Q (.sh (.tup (pI (lowsF s rs)))) ds
theorem ok_values_at_lows {Pg : Program} {w : World} {K : PySem.W.Frag} {mg : Str → Option Value} {base : Heap} {a : Addr} {fd : FuncData} (F : L2.Fun K "values_at_lows" "values_at_lows" s_values_at_lows a fd)
    (m_tuple : mg "tuple" = none)
    {cNeed : Addr} (T : Txt K mg cNeed) :
    FnOk Pg w K mg base CX0 1 a fd ["start", "rises"] (spD K (fs_values_at_lows cNeed)) := by
  have n_Need_start : ClsA K cNeed "start" := ⟨T.cl_Need, T.n_Need_start⟩
  have n_Need_rises : ClsA K cNeed "rises" := ⟨T.cl_Need, T.n_Need_rises⟩
  have n_Need_never : ClsA K cNeed "never" := ⟨T.cl_Need, T.n_Need_never⟩
  have n_Need__values : ClsA K cNeed "_values" := ⟨T.cl_Need, T.n_Need__values⟩
  have is_Need := T.is_Need
  refine Fun.okD [] F sc_values_at_lows (fun ds QD h => ?_) (fun cdv A outer s H E hr => ⟨_, _, (dss_cons (ds_put (do_lst da_nil) (pg_name (i := 2) sc_values_at_lows.nd rfl (by first | exact .inl rfl | exact .inr rfl)))
    (dss_cons (ds_asg (de_v 0 (pv 0)) (dg_name (pg_name (i := 3) sc_values_at_lows.nd rfl (by first | exact .inl rfl | exact .inr rfl))))
    (dss_cons (ds_for PassesOwn.never rfl (di_seq (de_v 1 (pv 1))) (dg_seq (fun h => pg_tup rfl h) (fun h => pg_unl rfl h) (dgs_cons (dg_name (pg_name (i := 4) sc_values_at_lows.nd rfl (by first | exact .inl rfl | exact .inr rfl))) (dgs_cons (dg_name (pg_name (i := 5) sc_values_at_lows.nd rfl (by first | exact .inl rfl | exact .inr rfl))) dgs_nil)))
    (dss_cons (ds_app (fun h => pe_bm PySem.F.plainAttrs_list PySem.F.slot_list_append PySem.F.type_list_append mt_append (pv 2) h) (de_v 3 (pv 3)))
    (dss_one (ds_if (dt_cmp op_notN os_notN (de_v 5 (pv 5)) de_non (nomark _))
    (dss_one (ds_asg (de_op op_sub os_sub (de_op op_add os_add (de_v 3 (pv 3)) (de_v 5 (pv 5))) (de_v 4 (pv 4))) (dg_name (pg_name (i := 3) sc_values_at_lows.nd rfl (by first | exact .inl rfl | exact .inr rfl)))))
    dss_nil))))
    (dss_one (ds_ret (de_cb (fun h => pe_callTy call_tuple_of (by rfl) m_tuple (by decide +kernel) h) cs_tuple (da_cons (de_vF 2 (pv 2)) da_nil))))))), fun ds QD h => ?_⟩)
  · first
      | (obtain ⟨rfl, _⟩ := h; exact ⟨rfl, rfl⟩)
      | (obtain ⟨_, rfl, _⟩ := h; exact ⟨rfl, rfl⟩)
      | (obtain ⟨_, _, rfl, _⟩ := h; exact ⟨rfl, rfl⟩)
      | (obtain ⟨_, _, _, rfl, _⟩ := h; exact ⟨rfl, rfl⟩)
      | (obtain ⟨_, _, _, _, rfl, _⟩ := h; exact ⟨rfl, rfl⟩)
      | (obtain ⟨_, _, _, _, _, rfl, _⟩ := h; exact ⟨rfl, rfl⟩)
      | (obtain ⟨_, _, _, _, _, _, rfl, _⟩ := h; exact ⟨rfl, rfl⟩)
      | (obtain ⟨_, _, _, _, _, _, _, rfl, _⟩ := h; exact ⟨rfl, rfl⟩)
      | (obtain ⟨_, _, _, _, _, _, _, _, rfl, _⟩ := h; exact ⟨rfl, rfl⟩)
      | (obtain ⟨_, _, _, _, _, _, _, _, _, rfl, _⟩ := h; exact ⟨rfl, rfl⟩)
      | (obtain ⟨_, _, _, _, _, _, _, _, _, _, rfl, _⟩ := h; exact ⟨rfl, rfl⟩)
      | (obtain ⟨_, _, _, _, _, _, _, _, _, _, _, rfl, _⟩ := h; exact ⟨rfl, rfl⟩)
  · obtain ⟨t, s, rs, rfl, hl, q⟩ := h
    walk_at "au"
    rw [pseq_sq]
    conv => whnf
    refine ⟨fun i env => ∃ lv hv, env = [some (.sh (.int s)), some (.sh (sq t (pRs rs))), some (.ol (pI (lowsF s (rs.take i)))), some (.sh (.int (s + wsum (rs.take i)))), lv, hv], ⟨none, none, by simp [wsum, lowsF]; rfl⟩, fun i p e hp hI => ?_, fun e hI => ?_⟩
    · obtain ⟨lv, hv, rfl⟩ := hI
      obtain ⟨⟨lo, hi⟩, hr, rfl⟩ := map_get hp
      have hi' := lt_of_get hr
      have el : (pI (lowsF s (rs.take i))).length = i := by
        rw [List.length_map, NM.lowsF_len, List.length_take]; omega
      have e1 : pI (lowsF s (rs.take i)) ++ [P.int (s + wsum (rs.take i))] = pI (lowsF s (rs.take (i + 1))) := by
        rw [NM.take_snoc hr, NM.lowsF_snoc, pI, pI, List.map_append]; rfl
      cases hi with
      | none =>
        walk_at "au"
        rw [← e1, NM.take_snoc hr, NM.wsum_snoc]
        simp only [Int.add_zero]
        exact ⟨_, _, rfl⟩
      | some g =>
        walk_at "au"
        rw [← e1, NM.take_snoc hr, NM.wsum_snoc]
        simp only
        rw [← show s + wsum (rs.take i) + g - lo = s + (wsum (rs.take i) + (g - lo)) by omega]
        exact ⟨_, _, rfl⟩
    · obtain ⟨lv, hv, rfl⟩ := hI
      rw [show (rs.map prP).length = rs.length from List.length_map _, List.take_length]
      walk_at "au"
      exact q
/-! ### greatest_value -/
abbrev s_greatest_value : Stmt := topS 10
theorem sc_greatest_value : FnScope ["start", "rises", "low", "high"] ["start", "rises"] (defScope s_greatest_value) := ⟨rfl, rfl, rfl, by decide +kernel, rfl, by decide +kernel, by decide +kernel⟩
def fs_greatest_value (cNeed : Addr) : FSp := fun ds Q => ∃ (t : Bool) (s : Int) (rs : List Pr), ds = [.sh (.int s), .sh (sq t (pRs rs))] ∧ rs.length ≤ 1000 ∧ (∀ p ∈ rs, ∃ h, p.2 = some h) ∧ Q (.sh (.int (s + wsum rs))) ds
theorem ok_greatest_value {Pg : Program} {w : World} {K : PySem.W.Frag} {mg : Str → Option Value} {base : Heap} {a : Addr} {fd : FuncData} (F : L2.Fun K "greatest_value" "greatest_value" s_greatest_value a fd)
    (m_sum : mg "sum" = none)
    {cNeed : Addr} (T : Txt K mg cNeed) :
    FnOk Pg w K mg base CX0 1 a fd ["start", "rises"] (spD K (fs_greatest_value cNeed)) := by
  have n_Need_start : ClsA K cNeed "start" := ⟨T.cl_Need, T.n_Need_start⟩
  have n_Need_rises : ClsA K cNeed "rises" := ⟨T.cl_Need, T.n_Need_rises⟩
  have n_Need_never : ClsA K cNeed "never" := ⟨T.cl_Need, T.n_Need_never⟩
  have n_Need__values : ClsA K cNeed "_values" := ⟨T.cl_Need, T.n_Need__values⟩
  have is_Need := T.is_Need
  refine Fun.okD [] F sc_greatest_value (fun ds QD h => ?_) (fun cdv A outer s H E hr => ⟨_, _, (dss_one (ds_ret (de_op op_add os_add (de_v 0 (pv 0)) (de_cb (fun h => pe_callB (cr_sum rfl) (by rfl) m_sum (by decide +kernel) h) cs_sum (da_cons (de_o (do_lcP (own := [("low", 2), ("high", 3)]) (n := 4) rfl sc_greatest_value.nd (di_seq (de_v 1 (pv 1))) (blkOk_by (N := ["start", "rises", "low", "high"]) (sc := defScope s_greatest_value) (own := [("low", 2), ("high", 3)]) (by decide +kernel)) (fun _ _ _ _ _ => (dg_seq (fun h => pg_tup rfl h) (fun h => pg_unl rfl h) (dgs_cons (dg_name (pg_name (i := 2) sc_greatest_value.nd rfl (by first | exact .inl rfl | exact .inr rfl))) (dgs_cons (dg_name (pg_name (i := 3) sc_greatest_value.nd rfl (by first | exact .inl rfl | exact .inr rfl))) dgs_nil)))) (fun _ _ _ _ _ => dts_nil) (fun _ _ _ _ _ => (de_op op_sub os_sub (de_v 3 (pv 3)) (de_v 2 (pv 2)))))) da_nil))))), fun ds QD h => ?_⟩)
  · first
      | (obtain ⟨rfl, _⟩ := h; exact ⟨rfl, rfl⟩)
      | (obtain ⟨_, rfl, _⟩ := h; exact ⟨rfl, rfl⟩)
      | (obtain ⟨_, _, rfl, _⟩ := h; exact ⟨rfl, rfl⟩)
      | (obtain ⟨_, _, _, rfl, _⟩ := h; exact ⟨rfl, rfl⟩)
      | (obtain ⟨_, _, _, _, rfl, _⟩ := h; exact ⟨rfl, rfl⟩)
      | (obtain ⟨_, _, _, _, _, rfl, _⟩ := h; exact ⟨rfl, rfl⟩)
      | (obtain ⟨_, _, _, _, _, _, rfl, _⟩ := h; exact ⟨rfl, rfl⟩)
      | (obtain ⟨_, _, _, _, _, _, _, rfl, _⟩ := h; exact ⟨rfl, rfl⟩)
      | (obtain ⟨_, _, _, _, _, _, _, _, rfl, _⟩ := h; exact ⟨rfl, rfl⟩)
      | (obtain ⟨_, _, _, _, _, _, _, _, _, rfl, _⟩ := h; exact ⟨rfl, rfl⟩)
      | (obtain ⟨_, _, _, _, _, _, _, _, _, _, rfl, _⟩ := h; exact ⟨rfl, rfl⟩)
      | (obtain ⟨_, _, _, _, _, _, _, _, _, _, _, rfl, _⟩ := h; exact ⟨rfl, rfl⟩)
  · obtain ⟨t, s, rs, rfl, hl, hc, q⟩ := h
    walk_at "au"
    rw [pseq_sq]
    walk_at "go"
    refine ⟨fun j acc => acc = pI ((rs.map NM.width).take j), rfl, fun j p acc hp hI => ?_, fun acc hI => ?_⟩
    · subst hI
      obtain ⟨⟨lo, hi⟩, hr, rfl⟩ := map_get hp
      have hj := lt_of_get hr
      obtain ⟨g, hg⟩ := hc _ (List.mem_of_getElem? hr)
      simp only at hg
      subst hg
      walk_at "au"
      have : (rs.map NM.width)[j]? = some (g - lo) := by rw [List.getElem?_map, hr]; rfl
      exact (take_map (f := P.int) this).symm
    · subst hI
      have e2 : (rs.map prP).length = (rs.map NM.width).length := by rw [List.length_map, List.length_map]
      rw [e2, List.take_length]
      walk_at "go"
      rw [DL.ints_map]
      walk_at "go"
      rw [NM.wsum_eq] at q
      exact q
/-! ### pair_at -/
abbrev s_pair_at : Stmt := topS 11
theorem sc_pair_at : FnScope ["rises", "k", "first", "behind", "middle"] ["rises", "k"] (defScope s_pair_at) := ⟨rfl, rfl, rfl, by decide +kernel, rfl, by decide +kernel, by decide +kernel⟩
def fs_pair_at (cNeed : Addr) : FSp := fun ds Q => ∃ (t : Bool) (rs : List Pr) (k : Int), ds = [.sh (sq t (pRs rs)), .sh (.int k)] ∧ Asc (-1) rs ∧ rs.length ≤ 1000 ∧
  (∀ n : Nat, n ≤ rs.length → (∀ (j : Nat) p, rs[j]? = some p → j < n → p.1 ≤ k) → (∀ (j : Nat) p, rs[j]? = some p → n ≤ j → k < p.1) → Q (.sh (.int ((n : Int) - 1))) ds)
theorem ok_pair_at {Pg : Program} {w : World} {K : PySem.W.Frag} {mg : Str → Option Value} {base : Heap} {a : Addr} {fd : FuncData} (F : L2.Fun K "pair_at" "pair_at" s_pair_at a fd)
    (m_len : mg "len" = none)
    {cNeed : Addr} (T : Txt K mg cNeed) :
    FnOk Pg w K mg base CX0 1 a fd ["rises", "k"] (spD K (fs_pair_at cNeed)) := by
  have n_Need_start : ClsA K cNeed "start" := ⟨T.cl_Need, T.n_Need_start⟩
  have n_Need_rises : ClsA K cNeed "rises" := ⟨T.cl_Need, T.n_Need_rises⟩
  have n_Need_never : ClsA K cNeed "never" := ⟨T.cl_Need, T.n_Need_never⟩
  have n_Need__values : ClsA K cNeed "_values" := ⟨T.cl_Need, T.n_Need__values⟩
  have is_Need := T.is_Need
  refine Fun.okD [] F sc_pair_at (fun ds QD h => ?_) (fun cdv A outer s H E hr => ⟨_, _, (dss_cons (ds_par (i := 2) (j := 3) (fun h => ps_par (i := 2) (j := 3) rfl sc_pair_at.nd rfl rfl (by decide) rfl rfl h (by rfl)) (da_cons de_int (da_cons (de_cb (fun h => pe_callB call_len (by rfl) m_len PySem.boot_len h) cs_len (da_cons (de_v 0 (pv 0)) da_nil)) da_nil)))
    (dss_cons (ds_while PassesOwn.never (dt_cmp op_lt os_lt (de_v 2 (pv 2)) (de_v 3 (pv 3)) (nomark _))
    (dss_cons (ds_asg (de_op op_fdivW os_div (de_op op_add os_add (de_v 2 (pv 2)) (de_v 3 (pv 3))) de_int) (dg_name (pg_name (i := 4) sc_pair_at.nd rfl (by first | exact .inl rfl | exact .inr rfl))))
    (dss_one (ds_if (dt_cmp op_le os_le (de_ix ix_seq os_ix (de_ix ix_seq os_ix (de_v 0 (pv 0)) (de_v 4 (pv 4))) de_int) (de_v 1 (pv 1)) (nomark _))
    (dss_one (ds_asg (de_op op_add os_add (de_v 4 (pv 4)) de_int) (dg_name (pg_name (i := 2) sc_pair_at.nd rfl (by first | exact .inl rfl | exact .inr rfl)))))
    (dss_one (ds_asg (de_v 4 (pv 4)) (dg_name (pg_name (i := 3) sc_pair_at.nd rfl (by first | exact .inl rfl | exact .inr rfl)))))))))
    (dss_one (ds_ret (de_op op_sub os_sub (de_v 2 (pv 2)) de_int))))), fun ds QD h => ?_⟩)
  · first
      | (obtain ⟨rfl, _⟩ := h; exact ⟨rfl, rfl⟩)
      | (obtain ⟨_, rfl, _⟩ := h; exact ⟨rfl, rfl⟩)
      | (obtain ⟨_, _, rfl, _⟩ := h; exact ⟨rfl, rfl⟩)
      | (obtain ⟨_, _, _, rfl, _⟩ := h; exact ⟨rfl, rfl⟩)
      | (obtain ⟨_, _, _, _, rfl, _⟩ := h; exact ⟨rfl, rfl⟩)
      | (obtain ⟨_, _, _, _, _, rfl, _⟩ := h; exact ⟨rfl, rfl⟩)
      | (obtain ⟨_, _, _, _, _, _, rfl, _⟩ := h; exact ⟨rfl, rfl⟩)
      | (obtain ⟨_, _, _, _, _, _, _, rfl, _⟩ := h; exact ⟨rfl, rfl⟩)
      | (obtain ⟨_, _, _, _, _, _, _, _, rfl, _⟩ := h; exact ⟨rfl, rfl⟩)
      | (obtain ⟨_, _, _, _, _, _, _, _, _, rfl, _⟩ := h; exact ⟨rfl, rfl⟩)
      | (obtain ⟨_, _, _, _, _, _, _, _, _, _, rfl, _⟩ := h; exact ⟨rfl, rfl⟩)
      | (obtain ⟨_, _, _, _, _, _, _, _, _, _, _, rfl, _⟩ := h; exact ⟨rfl, rfl⟩)
  · obtain ⟨t, rs, k, rfl, ha, hl, q⟩ := h
    have el : (pRs rs).length = rs.length := List.length_map _
    cases t
    all_goals
      walk_at "au"
      refine ⟨fun m e => ∃ (a b : Nat) (mv : Option D), e = [some (.sh (sq _ (pRs rs))), some (.sh (.int k)), some (.sh (.int (a : Int))), some (.sh (.int (b : Int))), mv] ∧ a ≤ b ∧ b ≤ rs.length ∧ m = b - a ∧
        (∀ (j : Nat) p, rs[j]? = some p → j < a → p.1 ≤ k) ∧ (∀ (j : Nat) p, rs[j]? = some p → b ≤ j → k < p.1), ⟨rs.length, 0, rs.length, none, by rw [el]; rfl, Nat.zero_le _, Nat.le_refl _, rfl, fun j p _ h => absurd h (Nat.not_lt_zero _), fun j p h1 h2 => absurd (lt_of_get h1) (by omega)⟩, fun m e hI => ?_⟩
      obtain ⟨a, b, mv, rfl, h1, h2, rfl, h3, h4⟩ := hI
      walk_at "au"
      · have hab : a < b := by omega
        have em : ((a : Int) + (b : Int)) / 2 = (((a + b) / 2 : Nat) : Int) := by omega
        obtain ⟨p, hp⟩ : ∃ p, rs[(a + b) / 2]? = some p := ⟨_, List.getElem?_eq_getElem (by omega)⟩
        rw [em]
        refine ⟨_, atI_map' hp, ?_⟩
        walk_at "au"
        · refine ⟨b - ((a + b) / 2 + 1), by omega, (a + b) / 2 + 1, b, _, rfl, by omega, h2, rfl, fun j q' hq hj => ?_, h4⟩
          by_cases e : j = (a + b) / 2
          · subst e; rw [hp] at hq; cases hq; assumption
          · have := NM.asc_sorted ha hq hp (by omega)
            omega
        · refine ⟨(a + b) / 2 - a, by omega, a, (a + b) / 2, _, rfl, by omega, by omega, rfl, h3, fun j q' hq hj => ?_⟩
          by_cases e : j = (a + b) / 2
          · subst e; rw [hp] at hq; cases hq; assumption
          · have := NM.asc_sorted ha hp hq (by omega)
            omega
      · have hab : a = b := by omega
        subst hab
        exact q a h2 h3 h4
/-! ### sooner -/
abbrev s_sooner : Stmt := topS 13
theorem sc_sooner : FnScope ["one", "other"] ["one", "other"] (defScope s_sooner) := ⟨rfl, rfl, rfl, by decide +kernel, rfl, by decide +kernel, by decide +kernel⟩
def fs_sooner (cNeed : Addr) : FSp := fun ds Q => ∃ (a b : Option Int), ds = [.sh (oI a), .sh (oI b)] ∧ Q (.sh (oI (minO a b))) ds
theorem ok_sooner {Pg : Program} {w : World} {K : PySem.W.Frag} {mg : Str → Option Value} {base : Heap} {a : Addr} {fd : FuncData} (F : L2.Fun K "sooner" "sooner" s_sooner a fd)
    (m_min : mg "min" = none)
    {cNeed : Addr} (T : Txt K mg cNeed) :
    FnOk Pg w K mg base CX0 1 a fd ["one", "other"] (spD K (fs_sooner cNeed)) := by
  have n_Need_start : ClsA K cNeed "start" := ⟨T.cl_Need, T.n_Need_start⟩
  have n_Need_rises : ClsA K cNeed "rises" := ⟨T.cl_Need, T.n_Need_rises⟩
  have n_Need_never : ClsA K cNeed "never" := ⟨T.cl_Need, T.n_Need_never⟩
  have n_Need__values : ClsA K cNeed "_values" := ⟨T.cl_Need, T.n_Need__values⟩
  have is_Need := T.is_Need
  refine Fun.okD [] F sc_sooner (fun ds QD h => ?_) (fun cdv A outer s H E hr => ⟨_, _, (dss_cons (ds_if (DW.pt (dw_or (dt_cmp op_isN os_isN (de_v 0 (pv 0)) de_non (nomark _)) (dw_or1 (dt_cmp op_isN os_isN (de_v 1 (pv 1)) de_non (nomark _)))))
    (dss_one (ds_ret (de_ifExp (dt_cmp op_isN os_isN (de_v 0 (pv 0)) de_non (nomark _)) (de_v 1 (pv 1)) (de_v 0 (pv 0)))))
    dss_nil)
    (dss_one (ds_ret (de_cb (fun h => pe_callB (call_min2 rfl) (by rfl) m_min (by decide +kernel) h) cs_min2 (da_cons (de_v 0 (pv 0)) (da_cons (de_v 1 (pv 1)) da_nil)))))), fun ds QD h => ?_⟩)
  · first
      | (obtain ⟨rfl, _⟩ := h; exact ⟨rfl, rfl⟩)
      | (obtain ⟨_, rfl, _⟩ := h; exact ⟨rfl, rfl⟩)
      | (obtain ⟨_, _, rfl, _⟩ := h; exact ⟨rfl, rfl⟩)
      | (obtain ⟨_, _, _, rfl, _⟩ := h; exact ⟨rfl, rfl⟩)
      | (obtain ⟨_, _, _, _, rfl, _⟩ := h; exact ⟨rfl, rfl⟩)
      | (obtain ⟨_, _, _, _, _, rfl, _⟩ := h; exact ⟨rfl, rfl⟩)
      | (obtain ⟨_, _, _, _, _, _, rfl, _⟩ := h; exact ⟨rfl, rfl⟩)
      | (obtain ⟨_, _, _, _, _, _, _, rfl, _⟩ := h; exact ⟨rfl, rfl⟩)
      | (obtain ⟨_, _, _, _, _, _, _, _, rfl, _⟩ := h; exact ⟨rfl, rfl⟩)
      | (obtain ⟨_, _, _, _, _, _, _, _, _, rfl, _⟩ := h; exact ⟨rfl, rfl⟩)
      | (obtain ⟨_, _, _, _, _, _, _, _, _, _, rfl, _⟩ := h; exact ⟨rfl, rfl⟩)
      | (obtain ⟨_, _, _, _, _, _, _, _, _, _, _, rfl, _⟩ := h; exact ⟨rfl, rfl⟩)
  · obtain ⟨a, b, rfl, q⟩ := h
    cases a with
    | none => walk_at "au"; exact q
    | some a =>
      cases b with
      | none => walk_at "au"; exact q
      | some b => walk_at "au"; exact q
/-! ### exceeds -/
abbrev s_exceeds : Stmt := topS 23
theorem sc_exceeds : FnScope ["one", "other"] ["one", "other"] (defScope s_exceeds) := ⟨rfl, rfl, rfl, by decide +kernel, rfl, by decide +kernel, by decide +kernel⟩
def fs_exceeds (cNeed : Addr) : FSp := fun ds Q => ∃ (a b : Option Int), ds = [.sh (oI a), .sh (oI b)] ∧ Q (.sh (.bl (excB a b))) ds
theorem ok_exceeds {Pg : Program} {w : World} {K : PySem.W.Frag} {mg : Str → Option Value} {base : Heap} {a : Addr} {fd : FuncData} (F : L2.Fun K "exceeds" "exceeds" s_exceeds a fd)
    {cNeed : Addr} (T : Txt K mg cNeed) :
    FnOk Pg w K mg base CX0 1 a fd ["one", "other"] (spD K (fs_exceeds cNeed)) := by
  have n_Need_start : ClsA K cNeed "start" := ⟨T.cl_Need, T.n_Need_start⟩
  have n_Need_rises : ClsA K cNeed "rises" := ⟨T.cl_Need, T.n_Need_rises⟩
  have n_Need_never : ClsA K cNeed "never" := ⟨T.cl_Need, T.n_Need_never⟩
  have n_Need__values : ClsA K cNeed "_values" := ⟨T.cl_Need, T.n_Need__values⟩
  have is_Need := T.is_Need
  refine Fun.okD [] F sc_exceeds (fun ds QD h => ?_) (fun cdv A outer s H E hr => ⟨_, _, (dss_one (ds_ret (de_and (de_cmp op_notN os_notN (de_v 1 (pv 1)) de_non (nomark _)) (de_one (de_or (de_cmp op_isN os_isN (de_v 0 (pv 0)) de_non (nomark _)) (de_one (de_cmp op_gt os_gt (de_v 0 (pv 0)) (de_v 1 (pv 1)) (nomark _)))))))), fun ds QD h => ?_⟩)
  · first
      | (obtain ⟨rfl, _⟩ := h; exact ⟨rfl, rfl⟩)
      | (obtain ⟨_, rfl, _⟩ := h; exact ⟨rfl, rfl⟩)
      | (obtain ⟨_, _, rfl, _⟩ := h; exact ⟨rfl, rfl⟩)
      | (obtain ⟨_, _, _, rfl, _⟩ := h; exact ⟨rfl, rfl⟩)
      | (obtain ⟨_, _, _, _, rfl, _⟩ := h; exact ⟨rfl, rfl⟩)
      | (obtain ⟨_, _, _, _, _, rfl, _⟩ := h; exact ⟨rfl, rfl⟩)
      | (obtain ⟨_, _, _, _, _, _, rfl, _⟩ := h; exact ⟨rfl, rfl⟩)
      | (obtain ⟨_, _, _, _, _, _, _, rfl, _⟩ := h; exact ⟨rfl, rfl⟩)
      | (obtain ⟨_, _, _, _, _, _, _, _, rfl, _⟩ := h; exact ⟨rfl, rfl⟩)
      | (obtain ⟨_, _, _, _, _, _, _, _, _, rfl, _⟩ := h; exact ⟨rfl, rfl⟩)
      | (obtain ⟨_, _, _, _, _, _, _, _, _, _, rfl, _⟩ := h; exact ⟨rfl, rfl⟩)
      | (obtain ⟨_, _, _, _, _, _, _, _, _, _, _, rfl, _⟩ := h; exact ⟨rfl, rfl⟩)
  · obtain ⟨a, b, rfl, q⟩ := h
    cases b with
    | none => walk_at "au"; exact q
    | some b =>
      cases a with
      | none => walk_at "au"; exact q
      | some a => walk_at "au"; exact q
/-! ### _law_cell -/
abbrev s__law_cell : Stmt := topS 26
theorem sc__law_cell : FnScope ["script", "k"] ["script", "k"] (defScope s__law_cell) := ⟨rfl, rfl, rfl, by decide +kernel, rfl, by decide +kernel, by decide +kernel⟩
def fs__law_cell (cNeed : Addr) : FSp := fun ds Q => ∃ (ns : List Int) (k : Nat), ds = [.sh (.rol (pI ns)), .sh (.int (k : Int))] ∧ Q (.sh (.int (ns.getD k 0))) ds
theorem ok__law_cell {Pg : Program} {w : World} {K : PySem.W.Frag} {mg : Str → Option Value} {base : Heap} {a : Addr} {fd : FuncData} (F : L2.Fun K "_law_cell" "_law_cell" s__law_cell a fd)
    (m_len : mg "len" = none)
    (m_int : mg "int" = none)
    {cNeed : Addr} (T : Txt K mg cNeed) :
    FnOk Pg w K mg base CX0 1 a fd ["script", "k"] (spD K (fs__law_cell cNeed)) := by
  have n_Need_start : ClsA K cNeed "start" := ⟨T.cl_Need, T.n_Need_start⟩
  have n_Need_rises : ClsA K cNeed "rises" := ⟨T.cl_Need, T.n_Need_rises⟩
  have n_Need_never : ClsA K cNeed "never" := ⟨T.cl_Need, T.n_Need_never⟩
  have n_Need__values : ClsA K cNeed "_values" := ⟨T.cl_Need, T.n_Need__values⟩
  have is_Need := T.is_Need
  refine Fun.okD [] F sc__law_cell (fun ds QD h => ?_) (fun cdv A outer s H E hr => ⟨_, _, (dss_cons (ds_if (dt_cmp op_lt os_lt (de_v 1 (pv 1)) (de_cb (fun h => pe_callB call_len (by rfl) m_len PySem.boot_len h) cs_len (da_cons (de_v 0 (pv 0)) da_nil)) (nomark _))
    (dss_one (ds_ret (de_cb (fun h => pe_callTy call_int1 (by rfl) m_int (by decide +kernel) h) cs_int (da_cons (de_ix ix_seq os_ix (de_v 0 (pv 0)) (de_v 1 (pv 1))) da_nil))))
    dss_nil)
    (dss_one (ds_ret de_int))), fun ds QD h => ?_⟩)
  · first
      | (obtain ⟨rfl, _⟩ := h; exact ⟨rfl, rfl⟩)
      | (obtain ⟨_, rfl, _⟩ := h; exact ⟨rfl, rfl⟩)
      | (obtain ⟨_, _, rfl, _⟩ := h; exact ⟨rfl, rfl⟩)
      | (obtain ⟨_, _, _, rfl, _⟩ := h; exact ⟨rfl, rfl⟩)
      | (obtain ⟨_, _, _, _, rfl, _⟩ := h; exact ⟨rfl, rfl⟩)
      | (obtain ⟨_, _, _, _, _, rfl, _⟩ := h; exact ⟨rfl, rfl⟩)
      | (obtain ⟨_, _, _, _, _, _, rfl, _⟩ := h; exact ⟨rfl, rfl⟩)
      | (obtain ⟨_, _, _, _, _, _, _, rfl, _⟩ := h; exact ⟨rfl, rfl⟩)
      | (obtain ⟨_, _, _, _, _, _, _, _, rfl, _⟩ := h; exact ⟨rfl, rfl⟩)
      | (obtain ⟨_, _, _, _, _, _, _, _, _, rfl, _⟩ := h; exact ⟨rfl, rfl⟩)
      | (obtain ⟨_, _, _, _, _, _, _, _, _, _, rfl, _⟩ := h; exact ⟨rfl, rfl⟩)
      | (obtain ⟨_, _, _, _, _, _, _, _, _, _, _, rfl, _⟩ := h; exact ⟨rfl, rfl⟩)
  · obtain ⟨ns, k, rfl, q⟩ := h
    conv => whnf
    refine ⟨fun e => ?_, fun e => ?_⟩
    · conv => whnf
      have hk : k < ns.length := by
        have := of_decide_eq_true e
        simp only [List.length_map] at this
        omega
      refine ⟨_, atI_map hk, ?_⟩
      refine ⟨rfl, ?_⟩
      rw [show ns.getD k 0 = ns[k] by rw [List.getD_eq_getElem?_getD, List.getElem?_eq_getElem hk]; rfl] at q
      exact q
    · have hk : ¬ k < ns.length := by
        have := of_decide_eq_false e
        simp only [List.length_map] at this
        omega
      rw [show ns.getD k 0 = 0 by rw [List.getD_eq_getElem?_getD, List.getElem?_eq_none (by omega)]; rfl] at q
      exact ⟨rfl, q⟩
/-! ### _law_draws -/
abbrev s__law_draws : Stmt := topS 27
theorem sc__law_draws : FnScope ["cell", "many", "rest", "large", "seed", "found", "k"] ["cell", "many"] (defScope s__law_draws) := ⟨rfl, rfl, rfl, by decide +kernel, rfl, by decide +kernel, by decide +kernel⟩
/-- one draw: the seed, what is left of the cell, the draws -/
def dstep (large : Bool) (i : Nat) (s : Int × Int × List Int) : Int × Int × List Int :=
  let seed := (s.1 * 48271 + 40692 * (i : Int) + 69621) % 2147483647
  if large = true ∧ 0 < s.2.1 then (seed, s.2.1 / 1000000, s.2.2 ++ [s.2.1 % 1000000])
  else (seed, s.2.1, s.2.2 ++ [((seed * 16807 + 7919 * (i : Int)) % 2147483629 / 1009) % 1000000])
def dst (large : Bool) (seed rest : Int) : Nat → Int × Int × List Int
  | 0 => (seed, rest, [])
  | i + 1 => dstep large i (dst large seed rest i)
def absI (c : Int) : Int := if c < 0 then -c else c
def drawsF (c : Int) (many : Nat) : List Int := (dst (decide (10 ^ 18 ≤ absI c)) (absI c % 2147483647) (absI c) many).2.2
theorem absI_nn (c : Int) : 0 ≤ absI c := by unfold absI; split <;> omega
structure DOk (i : Nat) (s : Int × Int × List Int) : Prop where
  s0 : 0 ≤ s.1
  s1 : s.1 < 2147483648
  r0 : 0 ≤ s.2.1
  len : s.2.2.length = i
  rg : ∀ d ∈ s.2.2, 0 ≤ d ∧ d < 1000000
theorem dstep_ok {large : Bool} {i : Nat} {s : Int × Int × List Int} (h : DOk i s) : DOk (i + 1) (dstep large i s) := by
  unfold dstep
  have e0 : 0 ≤ (s.1 * 48271 + 40692 * (i : Int) + 69621) % 2147483647 := Int.emod_nonneg _ (by decide)
  have e1 : (s.1 * 48271 + 40692 * (i : Int) + 69621) % 2147483647 < 2147483647 := Int.emod_lt_of_pos _ (by decide)
  dsimp only
  split
  · refine ⟨e0, by omega, Int.ediv_nonneg h.r0 (by decide), by rw [List.length_append, h.len]; rfl, fun d hd => ?_⟩
    rcases List.mem_append.mp hd with hd | hd
    · exact h.rg d hd
    · rw [List.mem_singleton.mp hd]
      exact ⟨Int.emod_nonneg _ (by decide), Int.emod_lt_of_pos _ (by decide)⟩
  · refine ⟨e0, by omega, h.r0, by rw [List.length_append, h.len]; rfl, fun d hd => ?_⟩
    rcases List.mem_append.mp hd with hd | hd
    · exact h.rg d hd
    · rw [List.mem_singleton.mp hd]
      exact ⟨Int.emod_nonneg _ (by decide), Int.emod_lt_of_pos _ (by decide)⟩
theorem dst_ok {large : Bool} {seed rest : Int} (h0 : 0 ≤ seed) (h1 : seed < 2147483648) (h2 : 0 ≤ rest) : ∀ i, DOk i (dst large seed rest i)
  | 0 => ⟨h0, h1, h2, rfl, fun d hd => absurd hd List.not_mem_nil⟩
  | i + 1 => dstep_ok (dst_ok h0 h1 h2 i)
theorem draws_ok (c : Int) (many : Nat) : DOk many (dst (decide (10 ^ 18 ≤ absI c)) (absI c % 2147483647) (absI c) many) :=
  dst_ok (Int.emod_nonneg _ (by decide)) (by have := Int.emod_lt_of_pos (absI c) (show (0 : Int) < 2147483647 by decide); omega) (absI_nn c) many
theorem drawsF_len (c : Int) (many : Nat) : (drawsF c many).length = many := (draws_ok c many).len
theorem drawsF_rg (c : Int) (many : Nat) : ∀ d ∈ drawsF c many, 0 ≤ d ∧ d < 1000000 := (draws_ok c many).rg
def fs__law_draws (cNeed : Addr) : FSp := fun ds Q => ∃ (c : Int) (many : Nat), ds = [.sh (.int c), .sh (.int (many : Int))] ∧ many ≤ 100000 ∧ Q (.ol (pI (drawsF c many))) ds
theorem ok__law_draws {Pg : Program} {w : World} {K : PySem.W.Frag} {mg : Str → Option Value} {base : Heap} {a : Addr} {fd : FuncData} (F : L2.Fun K "_law_draws" "_law_draws" s__law_draws a fd)
    (m_abs : mg "abs" = none)
    (m_int : mg "int" = none)
    (m_range : mg "range" = none)
    {cNeed : Addr} (T : Txt K mg cNeed) :
    FnOk Pg w K mg base CX0 1 a fd ["cell", "many"] (spD K (fs__law_draws cNeed)) := by
  have n_Need_start : ClsA K cNeed "start" := ⟨T.cl_Need, T.n_Need_start⟩
  have n_Need_rises : ClsA K cNeed "rises" := ⟨T.cl_Need, T.n_Need_rises⟩
  have n_Need_never : ClsA K cNeed "never" := ⟨T.cl_Need, T.n_Need_never⟩
  have n_Need__values : ClsA K cNeed "_values" := ⟨T.cl_Need, T.n_Need__values⟩
  have is_Need := T.is_Need
  refine Fun.okD [] F sc__law_draws (fun ds QD h => ?_) (fun cdv A outer s H E hr => ⟨_, _, (dss_cons (ds_asg (de_cb (fun h => pe_callB call_abs (by rfl) m_abs (by decide +kernel) h) cs_abs (da_cons (de_cb (fun h => pe_callTy call_int1 (by rfl) m_int (by decide +kernel) h) cs_int (da_cons (de_v 0 (pv 0)) da_nil)) da_nil)) (dg_name (pg_name (i := 2) sc__law_draws.nd rfl (by first | exact .inl rfl | exact .inr rfl))))
    (dss_cons (ds_asg (de_cmp op_ge os_ge (de_v 2 (pv 2)) (de_op op_pow os_pow de_int de_int) (nomark _)) (dg_name (pg_name (i := 3) sc__law_draws.nd rfl (by first | exact .inl rfl | exact .inr rfl))))
    (dss_cons (ds_asg (de_op op_mod os_mod (de_cb (fun h => pe_callTy call_int1 (by rfl) m_int (by decide +kernel) h) cs_int (da_cons (de_v 2 (pv 2)) da_nil)) de_int) (dg_name (pg_name (i := 4) sc__law_draws.nd rfl (by first | exact .inl rfl | exact .inr rfl))))
    (dss_cons (ds_put (do_lst da_nil) (pg_name (i := 5) sc__law_draws.nd rfl (by first | exact .inl rfl | exact .inr rfl)))
    (dss_cons (ds_for PassesOwn.never rfl (di_rng1 (fun h => pi_range1 (by rfl) m_range h) (da_cons (de_v 1 (pv 1)) da_nil)) (dg_name (pg_name (i := 6) sc__law_draws.nd rfl (by first | exact .inl rfl | exact .inr rfl)))
    (dss_cons (ds_asg (de_op op_mod os_mod (de_cb (fun h => pe_callTy call_int1 (by rfl) m_int (by decide +kernel) h) cs_int (da_cons (de_op op_add os_add (de_op op_add os_add (de_op op_mulW os_mul (de_v 4 (pv 4)) de_int) (de_op op_mulW os_mul de_int (de_v 6 (pv 6)))) de_int) da_nil)) de_int) (dg_name (pg_name (i := 4) sc__law_draws.nd rfl (by first | exact .inl rfl | exact .inr rfl))))
    (dss_one (ds_if (DW.pt (dw_and (dt_tru (de_v 3 (pv 3))) (dw_and1 (dt_cmp op_gt os_gt (de_v 2 (pv 2)) de_int (nomark _)))))
    (dss_cons (ds_app (fun h => pe_bm PySem.F.plainAttrs_list PySem.F.slot_list_append PySem.F.type_list_append mt_append (pv 5) h) (de_op op_mod os_mod (de_cb (fun h => pe_callTy call_int1 (by rfl) m_int (by decide +kernel) h) cs_int (da_cons (de_v 2 (pv 2)) da_nil)) de_int))
    (dss_one (ds_asg (de_op op_fdivW os_div (de_v 2 (pv 2)) de_int) (dg_name (pg_name (i := 2) sc__law_draws.nd rfl (by first | exact .inl rfl | exact .inr rfl))))))
    (dss_one (ds_app (fun h => pe_bm PySem.F.plainAttrs_list PySem.F.slot_list_append PySem.F.type_list_append mt_append (pv 5) h) (de_op op_mod os_mod (de_cb (fun h => pe_callTy call_int1 (by rfl) m_int (by decide +kernel) h) cs_int (da_cons (de_op op_fdivW os_div (de_op op_mod os_mod (de_cb (fun h => pe_callTy call_int1 (by rfl) m_int (by decide +kernel) h) cs_int (da_cons (de_op op_add os_add (de_op op_mulW os_mul (de_v 4 (pv 4)) de_int) (de_op op_mulW os_mul de_int (de_v 6 (pv 6)))) da_nil)) de_int) de_int) da_nil)) de_int)))))))
    (dss_one (ds_retV 5 (pv 5)))))))), fun ds QD h => ?_⟩)
  · first
      | (obtain ⟨rfl, _⟩ := h; exact ⟨rfl, rfl⟩)
      | (obtain ⟨_, rfl, _⟩ := h; exact ⟨rfl, rfl⟩)
      | (obtain ⟨_, _, rfl, _⟩ := h; exact ⟨rfl, rfl⟩)
      | (obtain ⟨_, _, _, rfl, _⟩ := h; exact ⟨rfl, rfl⟩)
      | (obtain ⟨_, _, _, _, rfl, _⟩ := h; exact ⟨rfl, rfl⟩)
      | (obtain ⟨_, _, _, _, _, rfl, _⟩ := h; exact ⟨rfl, rfl⟩)
      | (obtain ⟨_, _, _, _, _, _, rfl, _⟩ := h; exact ⟨rfl, rfl⟩)
      | (obtain ⟨_, _, _, _, _, _, _, rfl, _⟩ := h; exact ⟨rfl, rfl⟩)
      | (obtain ⟨_, _, _, _, _, _, _, _, rfl, _⟩ := h; exact ⟨rfl, rfl⟩)
      | (obtain ⟨_, _, _, _, _, _, _, _, _, rfl, _⟩ := h; exact ⟨rfl, rfl⟩)
      | (obtain ⟨_, _, _, _, _, _, _, _, _, _, rfl, _⟩ := h; exact ⟨rfl, rfl⟩)
      | (obtain ⟨_, _, _, _, _, _, _, _, _, _, _, rfl, _⟩ := h; exact ⟨rfl, rfl⟩)
  · obtain ⟨c, many, rfl, hm, q⟩ := h
    have hz : sizeLine = 16777216 := sizeLine_eq
    conv => whnf
    refine And.intro rfl ?_
    conv => whnf
    refine And.intro ⟨by decide, by decide, by decide⟩ ?_
    walk_at "go"
    refine ⟨fun i env => ∃ kv, env = [some (.sh (.int c)), some (.sh (.int many)), some (.sh (.int (dst (decide (10 ^ 18 ≤ absI c)) (absI c % 2147483647) (absI c) i).2.1)), some (.sh (.bl (decide (10 ^ 18 ≤ absI c)))),
      some (.sh (.int (dst (decide (10 ^ 18 ≤ absI c)) (absI c % 2147483647) (absI c) i).1)), some (.ol (pI (dst (decide (10 ^ 18 ≤ absI c)) (absI c % 2147483647) (absI c) i).2.2)), kv], ⟨none, rfl⟩, fun i p e hp hI => ?_, fun e hI => ?_⟩
    · obtain ⟨kv, rfl⟩ := hI
      obtain ⟨hi, rfl⟩ := rngP_get hp
      have hi' : i < many := by simpa using hi
      have d0 := draws_ok c i
      revert d0
      generalize hd : dst (decide (10 ^ 18 ≤ absI c)) (absI c % 2147483647) (absI c) i = st
      intro d0
      have s0 := d0.s0
      have s1 := d0.s1
      have r0 := d0.r0
      have ln := d0.len
      walk_at "go"
      refine ⟨fun hl => ?_, fun hl => ?_⟩
      · walk_at "go"
        refine ⟨fun hg => ?_, fun hg => ?_⟩
        · have hg' : 0 < st.2.1 := of_decide_eq_true hg
          walk_at "go"
          refine ⟨some (.sh (.int (0 + (i : Int)))), ?_⟩
          have e1 : dst (decide (10 ^ 18 ≤ absI c)) (absI c % 2147483647) (absI c) (i + 1) = dstep (decide (10 ^ 18 ≤ absI c)) i st := by rw [← hd]; rfl
          rw [e1, show dstep (decide (10 ^ 18 ≤ absI c)) i st = _ from if_pos ⟨hl, hg'⟩]
          simp only [pI, List.map_append, List.map_cons, List.map_nil, Int.zero_add]
          rfl
        · have hg' : ¬ 0 < st.2.1 := of_decide_eq_false hg
          walk_at "go"
          refine ⟨some (.sh (.int (0 + (i : Int)))), ?_⟩
          have e1 : dst (decide (10 ^ 18 ≤ absI c)) (absI c % 2147483647) (absI c) (i + 1) = dstep (decide (10 ^ 18 ≤ absI c)) i st := by rw [← hd]; rfl
          rw [e1, show dstep (decide (10 ^ 18 ≤ absI c)) i st = _ from if_neg fun h => hg' h.2]
          simp only [pI, List.map_append, List.map_cons, List.map_nil, Int.zero_add]
          rfl
      · refine ⟨fun hg => Bool.noConfusion hg, fun _ => ?_⟩
        walk_at "go"
        refine ⟨some (.sh (.int (0 + (i : Int)))), ?_⟩
        have e1 : dst (decide (10 ^ 18 ≤ absI c)) (absI c % 2147483647) (absI c) (i + 1) = dstep (decide (10 ^ 18 ≤ absI c)) i st := by rw [← hd]; rfl
        rw [e1, show dstep (decide (10 ^ 18 ≤ absI c)) i st = _ from if_neg fun h => by rw [hl] at h; exact Bool.noConfusion h.1]
        simp only [pI, List.map_append, List.map_cons, List.map_nil, Int.zero_add]
        rfl
    · obtain ⟨kv, rfl⟩ := hI
      rw [rngP_len]
      exact ⟨rfl, q⟩
/-! ### _law_take -/
abbrev s__law_take : Stmt := topS 28
theorem sc__law_take : FnScope ["draws", "place"] ["draws", "place"] (defScope s__law_take) := ⟨rfl, rfl, rfl, by decide +kernel, rfl, by decide +kernel, by decide +kernel⟩
def fs__law_take (cNeed : Addr) : FSp := fun ds Q => ∃ (rs : List Int) (k : Nat), ds = [.sh (.lst (pI rs)), .ol [.int (k : Int)]] ∧ Q (.sh (.int (rs.getD k 0))) [.sh (.lst (pI rs)), .ol [.int ((k + 1 : Nat) : Int)]]
theorem ok__law_take {Pg : Program} {w : World} {K : PySem.W.Frag} {mg : Str → Option Value} {base : Heap} {a : Addr} {fd : FuncData} (F : L2.Fun K "_law_take" "_law_take" s__law_take a fd)
    (m_len : mg "len" = none)
    {cNeed : Addr} (T : Txt K mg cNeed) :
    FnOk Pg w K mg base CX0 1 a fd ["draws", "place"] (spD K (fs__law_take cNeed)) := by
  have n_Need_start : ClsA K cNeed "start" := ⟨T.cl_Need, T.n_Need_start⟩
  have n_Need_rises : ClsA K cNeed "rises" := ⟨T.cl_Need, T.n_Need_rises⟩
  have n_Need_never : ClsA K cNeed "never" := ⟨T.cl_Need, T.n_Need_never⟩
  have n_Need__values : ClsA K cNeed "_values" := ⟨T.cl_Need, T.n_Need__values⟩
  have is_Need := T.is_Need
  refine Fun.okD [1] F sc__law_take (fun ds QD h => ?_) (fun cdv A outer s H E hr => ⟨_, _, (dss_cons (ds_setI (fun h => pg_sub (pv 1) h set_list) de_int (de_op op_add os_add (de_itm 1 (fun h => pe_ix ix_list (pv 1) h (fun _ _ => rfl)) de_int) de_int))
    (dss_cons (ds_if (dt_cmp op_gt os_gt (de_itm 1 (fun h => pe_ix ix_list (pv 1) h (fun _ _ => rfl)) de_int) (de_cb (fun h => pe_callB call_len (by rfl) m_len PySem.boot_len h) cs_len (da_cons (de_v 0 (pv 0)) da_nil)) (nomark _))
    (dss_one (ds_ret de_int))
    dss_nil)
    (dss_one (ds_ret (de_ix ix_seq os_ix (de_v 0 (pv 0)) (de_op op_sub os_sub (de_itm 1 (fun h => pe_ix ix_list (pv 1) h (fun _ _ => rfl)) de_int) de_int)))))), fun ds QD h => ?_⟩)
  · first
      | (obtain ⟨rfl, _⟩ := h; exact ⟨rfl, rfl⟩)
      | (obtain ⟨_, rfl, _⟩ := h; exact ⟨rfl, rfl⟩)
      | (obtain ⟨_, _, rfl, _⟩ := h; exact ⟨rfl, rfl⟩)
      | (obtain ⟨_, _, _, rfl, _⟩ := h; exact ⟨rfl, rfl⟩)
      | (obtain ⟨_, _, _, _, rfl, _⟩ := h; exact ⟨rfl, rfl⟩)
      | (obtain ⟨_, _, _, _, _, rfl, _⟩ := h; exact ⟨rfl, rfl⟩)
      | (obtain ⟨_, _, _, _, _, _, rfl, _⟩ := h; exact ⟨rfl, rfl⟩)
      | (obtain ⟨_, _, _, _, _, _, _, rfl, _⟩ := h; exact ⟨rfl, rfl⟩)
      | (obtain ⟨_, _, _, _, _, _, _, _, rfl, _⟩ := h; exact ⟨rfl, rfl⟩)
      | (obtain ⟨_, _, _, _, _, _, _, _, _, rfl, _⟩ := h; exact ⟨rfl, rfl⟩)
      | (obtain ⟨_, _, _, _, _, _, _, _, _, _, rfl, _⟩ := h; exact ⟨rfl, rfl⟩)
      | (obtain ⟨_, _, _, _, _, _, _, _, _, _, _, rfl, _⟩ := h; exact ⟨rfl, rfl⟩)
  · obtain ⟨rs, k, rfl, q⟩ := h
    walk_at "go"
    refine ⟨_, rfl, ?_⟩
    walk_at "go"
    refine ⟨0, rfl, ?_⟩
    walk_at "go"
    refine ⟨_, rfl, ?_⟩
    walk_at "go"
    have e1 : (k : Int) + 1 = ((k + 1 : Nat) : Int) := by omega
    refine ⟨fun hg => ?_, fun hg => ?_⟩
    · have hk : ¬ k < rs.length := by
        have := of_decide_eq_true hg
        simp only [pI, List.length_map] at this
        omega
      rw [show rs.getD k 0 = 0 by rw [List.getD_eq_getElem?_getD, List.getElem?_eq_none (by omega)]; rfl, ← e1] at q
      exact ⟨rfl, q⟩
    · have hk : k < rs.length := by
        have := of_decide_eq_false hg
        simp only [pI, List.length_map] at this
        omega
      walk_at "go"
      refine ⟨_, rfl, ?_⟩
      walk_at "go"
      rw [show rs.getD k 0 = rs[k] by rw [List.getD_eq_getElem?_getD, List.getElem?_eq_getElem hk]; rfl, ← e1] at q
      refine ⟨.int rs[k], ?_, ?_⟩
      · show atI (pI rs) ((k : Int) + 1 - 1) = _
        rw [show (k : Int) + 1 - 1 = (k : Int) by omega]
        exact atI_map hk
      · exact ⟨rfl, q⟩
/-! ### _law_value -/
abbrev s__law_value : Stmt := topS 30
theorem sc__law_value : FnScope ["need", "k", "value", "pair"] ["need", "k"] (defScope s__law_value) := ⟨rfl, rfl, rfl, by decide +kernel, rfl, by decide +kernel, by decide +kernel⟩
def fs__law_value (cNeed : Addr) : FSp := fun ds Q => ∃ (n : Nd) (k : Option Int), ds = [.sh (needL n), .sh (oI k)] ∧ Q (.sh (oI (nval n k))) ds
theorem ok__law_value {Pg : Program} {w : World} {K : PySem.W.Frag} {mg : Str → Option Value} {base : Heap} {a : Addr} {fd : FuncData} (F : L2.Fun K "_law_value" "_law_value" s__law_value a fd)
    {cNeed : Addr} (T : Txt K mg cNeed) :
    FnOk Pg w K mg base CX0 1 a fd ["need", "k"] (spD K (fs__law_value cNeed)) := by
  have n_Need_start : ClsA K cNeed "start" := ⟨T.cl_Need, T.n_Need_start⟩
  have n_Need_rises : ClsA K cNeed "rises" := ⟨T.cl_Need, T.n_Need_rises⟩
  have n_Need_never : ClsA K cNeed "never" := ⟨T.cl_Need, T.n_Need_never⟩
  have n_Need__values : ClsA K cNeed "_values" := ⟨T.cl_Need, T.n_Need__values⟩
  have is_Need := T.is_Need
  refine Fun.okD [] F sc__law_value (fun ds QD h => ?_) (fun cdv A outer s H E hr => ⟨_, _, (dss_cons (ds_if (DW.pt (dw_or (dt_cmp op_isN os_isN (de_v 1 (pv 1)) de_non (nomark _)) (dw_or1 (dt_cmp op_isN os_isN (de_ix ix_seq os_ix (de_v 0 (pv 0)) de_int) de_non (nomark _)))))
    (dss_one (ds_ret (de_ix ix_seq os_ix (de_v 0 (pv 0)) de_int)))
    dss_nil)
    (dss_cons (ds_asg (de_ix ix_seq os_ix (de_v 0 (pv 0)) de_int) (dg_name (pg_name (i := 2) sc__law_value.nd rfl (by first | exact .inl rfl | exact .inr rfl))))
    (dss_cons (ds_for PassesOwn.never rfl (di_seq (de_ix ix_seq os_ix (de_v 0 (pv 0)) de_int)) (dg_name (pg_name (i := 3) sc__law_value.nd rfl (by first | exact .inl rfl | exact .inr rfl)))
    (dss_one (ds_if (DW.pt (dw_and (dt_cmp op_gt os_gt (de_v 1 (pv 1)) (de_ix ix_seq os_ix (de_v 3 (pv 3)) de_int) (nomark _)) (dw_and1 (DW.pt (dw_or (dt_cmp op_isN os_isN (de_ix ix_seq os_ix (de_v 3 (pv 3)) de_int) de_non (nomark _)) (dw_or1 (dt_cmp op_lt os_lt (de_v 1 (pv 1)) (de_ix ix_seq os_ix (de_v 3 (pv 3)) de_int) (nomark _))))))))
    (dss_one (ds_asg (de_op op_sub os_sub (de_op op_add os_add (de_v 2 (pv 2)) (de_v 1 (pv 1))) (de_ix ix_seq os_ix (de_v 3 (pv 3)) de_int)) (dg_name (pg_name (i := 2) sc__law_value.nd rfl (by first | exact .inl rfl | exact .inr rfl)))))
    (dss_one (ds_if (dt_cmp op_gt os_gt (de_v 1 (pv 1)) (de_ix ix_seq os_ix (de_v 3 (pv 3)) de_int) (nomark _))
    (dss_one (ds_asg (de_op op_sub os_sub (de_op op_add os_add (de_v 2 (pv 2)) (de_ix ix_seq os_ix (de_v 3 (pv 3)) de_int)) (de_ix ix_seq os_ix (de_v 3 (pv 3)) de_int)) (dg_name (pg_name (i := 2) sc__law_value.nd rfl (by first | exact .inl rfl | exact .inr rfl)))))
    dss_nil)))))
    (dss_one (ds_ret (de_v 2 (pv 2))))))), fun ds QD h => ?_⟩)
  · first
      | (obtain ⟨rfl, _⟩ := h; exact ⟨rfl, rfl⟩)
      | (obtain ⟨_, rfl, _⟩ := h; exact ⟨rfl, rfl⟩)
      | (obtain ⟨_, _, rfl, _⟩ := h; exact ⟨rfl, rfl⟩)
      | (obtain ⟨_, _, _, rfl, _⟩ := h; exact ⟨rfl, rfl⟩)
      | (obtain ⟨_, _, _, _, rfl, _⟩ := h; exact ⟨rfl, rfl⟩)
      | (obtain ⟨_, _, _, _, _, rfl, _⟩ := h; exact ⟨rfl, rfl⟩)
      | (obtain ⟨_, _, _, _, _, _, rfl, _⟩ := h; exact ⟨rfl, rfl⟩)
      | (obtain ⟨_, _, _, _, _, _, _, rfl, _⟩ := h; exact ⟨rfl, rfl⟩)
      | (obtain ⟨_, _, _, _, _, _, _, _, rfl, _⟩ := h; exact ⟨rfl, rfl⟩)
      | (obtain ⟨_, _, _, _, _, _, _, _, _, rfl, _⟩ := h; exact ⟨rfl, rfl⟩)
      | (obtain ⟨_, _, _, _, _, _, _, _, _, _, rfl, _⟩ := h; exact ⟨rfl, rfl⟩)
      | (obtain ⟨_, _, _, _, _, _, _, _, _, _, _, rfl, _⟩ := h; exact ⟨rfl, rfl⟩)
  · obtain ⟨⟨s, rs, nv⟩, k, rfl, q⟩ := h
    cases k with
    | none =>
      have e : nval ⟨s, rs, nv⟩ none = nv := by unfold nval; cases s <;> rfl
      rw [e] at q
      walk_at "au"
      exact q
    | some k =>
      cases s with
      | none =>
        walk_at "au"
        exact q
      | some s =>
        walk_at "au"
        refine ⟨fun i env => ∃ pv, env = [some (.sh (needL ⟨some s, rs, nv⟩)), some (.sh (oI (some k))), some (.sh (.int (s + vsum (rs.take i) k))), pv], ⟨none, by simp [vsum]; rfl⟩, fun i p e hp hI => ?_, fun e hI => ?_⟩
        · obtain ⟨pv, rfl⟩ := hI
          obtain ⟨⟨lo, hi⟩, hr, rfl⟩ := map_get hp
          have ev : vsum (rs.take (i + 1)) k = vsum (rs.take i) k + con (lo, hi) k := by rw [NM.take_snoc hr, NM.vsum_snoc]
          cases hi with
          | none =>
            rw [NM.con_none] at ev
            walk_at "ax"
            · rw [if_neg (by omega)] at ev
              exact ⟨_, by rw [ev, ← show s + vsum (rs.take i) k + k - lo = s + (vsum (rs.take i) k + (k - lo)) by omega]; rfl⟩
            · rw [if_pos (by omega)] at ev
              exact ⟨_, by rw [ev, Int.add_zero]; rfl⟩
          | some g =>
            rw [NM.con_some] at ev
            walk_at "ax"
            · rw [if_neg (by omega), if_pos (by omega)] at ev
              exact ⟨_, by rw [ev, ← show s + vsum (rs.take i) k + k - lo = s + (vsum (rs.take i) k + (k - lo)) by omega]; rfl⟩
            · rw [if_neg (by omega), if_neg (by omega)] at ev
              exact ⟨_, by rw [ev, ← show s + vsum (rs.take i) k + g - lo = s + (vsum (rs.take i) k + (g - lo)) by omega]; rfl⟩
            · rw [if_pos (by omega)] at ev
              exact ⟨_, by rw [ev, Int.add_zero]; rfl⟩
        · obtain ⟨pv, rfl⟩ := hI
          rw [show (rs.map prP).length = rs.length from List.length_map _, List.take_length]
          walk_at "au"
          exact q
/-! ### _law_same -/
abbrev s__law_same : Stmt := topS 31
theorem sc__law_same : FnScope ["told", "due"] ["told", "due"] (defScope s__law_same) := ⟨rfl, rfl, rfl, by decide +kernel, rfl, by decide +kernel, by decide +kernel⟩
def fs__law_same (cNeed : Addr) : FSp := fun ds Q => ∃ (a : Option Int), ds = [.sh (oI a), .sh (oI a)] ∧ Q (.sh (.bl true)) ds
theorem ok__law_same {Pg : Program} {w : World} {K : PySem.W.Frag} {mg : Str → Option Value} {base : Heap} {a : Addr} {fd : FuncData} (F : L2.Fun K "_law_same" "_law_same" s__law_same a fd)
    (m_isinstance : mg "isinstance" = none)
    (m_int : mg "int" = none)
    (m_bool : mg "bool" = none)
    {cNeed : Addr} (T : Txt K mg cNeed) :
    FnOk Pg w K mg base CX0 1 a fd ["told", "due"] (spD K (fs__law_same cNeed)) := by
  have n_Need_start : ClsA K cNeed "start" := ⟨T.cl_Need, T.n_Need_start⟩
  have n_Need_rises : ClsA K cNeed "rises" := ⟨T.cl_Need, T.n_Need_rises⟩
  have n_Need_never : ClsA K cNeed "never" := ⟨T.cl_Need, T.n_Need_never⟩
  have n_Need__values : ClsA K cNeed "_values" := ⟨T.cl_Need, T.n_Need__values⟩
  have is_Need := T.is_Need
  refine Fun.okD [] F sc__law_same (fun ds QD h => ?_) (fun cdv A outer s H E hr => ⟨_, _, (dss_cons (ds_if (dt_cmp op_isN os_isN (de_v 1 (pv 1)) de_non (nomark _))
    (dss_one (ds_ret (de_cmp op_isN os_isN (de_v 0 (pv 0)) de_non (nomark _))))
    dss_nil)
    (dss_one (ds_ret (de_and (de_cb (fun h => pe_callB call_isi (by rfl) m_isinstance (by decide +kernel) h) cs_isi (da_cons (de_v 0 (pv 0)) (da_cons (de_glob (p := .ty "int") (pe_bltn (v := .ty "int") (u := .type "int") (by rfl) m_int (by decide +kernel) rfl) (fun _ => rfl)) da_nil))) (de_and (de_not (de_cb (fun h => pe_callB call_isi (by rfl) m_isinstance (by decide +kernel) h) cs_isi (da_cons (de_v 0 (pv 0)) (da_cons (de_glob (p := .ty "bool") (pe_bltn (v := .ty "bool") (u := .type "bool") (by rfl) m_bool (by decide +kernel) rfl) (fun _ => rfl)) da_nil)))) (de_one (de_cmp (op_eqD hr.units) os_eqD (de_v 0 (pv 0)) (de_v 1 (pv 1)) (nomark _)))))))), fun ds QD h => ?_⟩)
  · first
      | (obtain ⟨rfl, _⟩ := h; exact ⟨rfl, rfl⟩)
      | (obtain ⟨_, rfl, _⟩ := h; exact ⟨rfl, rfl⟩)
      | (obtain ⟨_, _, rfl, _⟩ := h; exact ⟨rfl, rfl⟩)
      | (obtain ⟨_, _, _, rfl, _⟩ := h; exact ⟨rfl, rfl⟩)
      | (obtain ⟨_, _, _, _, rfl, _⟩ := h; exact ⟨rfl, rfl⟩)
      | (obtain ⟨_, _, _, _, _, rfl, _⟩ := h; exact ⟨rfl, rfl⟩)
      | (obtain ⟨_, _, _, _, _, _, rfl, _⟩ := h; exact ⟨rfl, rfl⟩)
      | (obtain ⟨_, _, _, _, _, _, _, rfl, _⟩ := h; exact ⟨rfl, rfl⟩)
      | (obtain ⟨_, _, _, _, _, _, _, _, rfl, _⟩ := h; exact ⟨rfl, rfl⟩)
      | (obtain ⟨_, _, _, _, _, _, _, _, _, rfl, _⟩ := h; exact ⟨rfl, rfl⟩)
      | (obtain ⟨_, _, _, _, _, _, _, _, _, _, rfl, _⟩ := h; exact ⟨rfl, rfl⟩)
      | (obtain ⟨_, _, _, _, _, _, _, _, _, _, _, rfl, _⟩ := h; exact ⟨rfl, rfl⟩)
  · obtain ⟨a, rfl, q⟩ := h
    cases a with
    | none =>
      walk_at "au"
      exact q
    | some a =>
      walk_at "au"
      refine ⟨true, by decide +kernel, ?_⟩
      walk_at "au"
      refine ⟨false, by decide +kernel, ?_⟩
      walk_at "au"
      rw [show PyData.eqv (oI (some a)).toD (oI (some a)).toD = true from (shp_oI (some a)).refl]
      exact q
/-! ### _law_at_most -/
abbrev s__law_at_most : Stmt := topS 32
theorem sc__law_at_most : FnScope ["a", "b"] ["a", "b"] (defScope s__law_at_most) := ⟨rfl, rfl, rfl, by decide +kernel, rfl, by decide +kernel, by decide +kernel⟩
def fs__law_at_most (cNeed : Addr) : FSp := fun ds Q => ∃ (a b : Option Int), ds = [.sh (oI a), .sh (oI b)] ∧ Q (.sh (.bl (leB a b))) ds
theorem ok__law_at_most {Pg : Program} {w : World} {K : PySem.W.Frag} {mg : Str → Option Value} {base : Heap} {a : Addr} {fd : FuncData} (F : L2.Fun K "_law_at_most" "_law_at_most" s__law_at_most a fd)
    {cNeed : Addr} (T : Txt K mg cNeed) :
    FnOk Pg w K mg base CX0 1 a fd ["a", "b"] (spD K (fs__law_at_most cNeed)) := by
  have n_Need_start : ClsA K cNeed "start" := ⟨T.cl_Need, T.n_Need_start⟩
  have n_Need_rises : ClsA K cNeed "rises" := ⟨T.cl_Need, T.n_Need_rises⟩
  have n_Need_never : ClsA K cNeed "never" := ⟨T.cl_Need, T.n_Need_never⟩
  have n_Need__values : ClsA K cNeed "_values" := ⟨T.cl_Need, T.n_Need__values⟩
  have is_Need := T.is_Need
  refine Fun.okD [] F sc__law_at_most (fun ds QD h => ?_) (fun cdv A outer s H E hr => ⟨_, _, (dss_cons (ds_if (dt_cmp op_isN os_isN (de_v 1 (pv 1)) de_non (nomark _))
    (dss_one (ds_ret de_bl))
    dss_nil)
    (dss_one (ds_ret (de_and (de_cmp op_notN os_notN (de_v 0 (pv 0)) de_non (nomark _)) (de_one (de_cmp op_le os_le (de_v 0 (pv 0)) (de_v 1 (pv 1)) (nomark _))))))), fun ds QD h => ?_⟩)
  · first
      | (obtain ⟨rfl, _⟩ := h; exact ⟨rfl, rfl⟩)
      | (obtain ⟨_, rfl, _⟩ := h; exact ⟨rfl, rfl⟩)
      | (obtain ⟨_, _, rfl, _⟩ := h; exact ⟨rfl, rfl⟩)
      | (obtain ⟨_, _, _, rfl, _⟩ := h; exact ⟨rfl, rfl⟩)
      | (obtain ⟨_, _, _, _, rfl, _⟩ := h; exact ⟨rfl, rfl⟩)
      | (obtain ⟨_, _, _, _, _, rfl, _⟩ := h; exact ⟨rfl, rfl⟩)
      | (obtain ⟨_, _, _, _, _, _, rfl, _⟩ := h; exact ⟨rfl, rfl⟩)
      | (obtain ⟨_, _, _, _, _, _, _, rfl, _⟩ := h; exact ⟨rfl, rfl⟩)
      | (obtain ⟨_, _, _, _, _, _, _, _, rfl, _⟩ := h; exact ⟨rfl, rfl⟩)
      | (obtain ⟨_, _, _, _, _, _, _, _, _, rfl, _⟩ := h; exact ⟨rfl, rfl⟩)
      | (obtain ⟨_, _, _, _, _, _, _, _, _, _, rfl, _⟩ := h; exact ⟨rfl, rfl⟩)
      | (obtain ⟨_, _, _, _, _, _, _, _, _, _, _, rfl, _⟩ := h; exact ⟨rfl, rfl⟩)
  · obtain ⟨a, b, rfl, q⟩ := h
    cases b with
    | none => walk_at "au"; exact q
    | some b =>
      cases a with
      | none => walk_at "au"; exact q
      | some a => walk_at "au"; exact q
/-! ### _law_stuck -/
abbrev s__law_stuck : Stmt := topS 36
theorem sc__law_stuck : FnScope ["values", "purse", "above", "last"] ["values", "purse", "above"] (defScope s__law_stuck) := ⟨rfl, rfl, rfl, by decide +kernel, rfl, by decide +kernel, by decide +kernel⟩
def fs__law_stuck (cNeed : Addr) : FSp := fun ds Q => ∃ (xs : List (Option Int)) (x0 y z : Option Int) (p : Int) (ab : Bool), ds = [.sh (.lst (xs.map oI)), .sh (.int p), .sh (.bl ab)] ∧ xs[0]? = some x0 ∧ atI (xs.map oI) (-1) = some (oI z) ∧ atI (xs.map oI) (-2) = some (oI y) ∧
  z ≠ y ∧ (ab = true → ∃ a, x0 = some a ∧ ∀ b, z = some b → a < b) ∧ (ab = false → ∃ b, z = some b ∧ ∀ a, x0 = some a → b ≤ a) ∧ Q (.sh (.bl false)) ds
theorem ok__law_stuck {Pg : Program} {w : World} {K : PySem.W.Frag} {mg : Str → Option Value} {base : Heap} {a : Addr} {fd : FuncData} (F : L2.Fun K "_law_stuck" "_law_stuck" s__law_stuck a fd)
    {cNeed : Addr} (T : Txt K mg cNeed) :
    FnOk Pg w K mg base CX0 1 a fd ["values", "purse", "above"] (spD K (fs__law_stuck cNeed)) := by
  have n_Need_start : ClsA K cNeed "start" := ⟨T.cl_Need, T.n_Need_start⟩
  have n_Need_rises : ClsA K cNeed "rises" := ⟨T.cl_Need, T.n_Need_rises⟩
  have n_Need_never : ClsA K cNeed "never" := ⟨T.cl_Need, T.n_Need_never⟩
  have n_Need__values : ClsA K cNeed "_values" := ⟨T.cl_Need, T.n_Need__values⟩
  have is_Need := T.is_Need
  refine Fun.okD [] F sc__law_stuck (fun ds QD h => ?_) (fun cdv A outer s H E hr => ⟨_, _, (dss_cons (ds_asg (de_ix ix_seq os_ix (de_v 0 (pv 0)) (de_un un_neg us_neg de_int)) (dg_name (pg_name (i := 3) sc__law_stuck.nd rfl (by first | exact .inl rfl | exact .inr rfl))))
    (dss_cons (ds_if (dt_cmp (op_eqD hr.units) os_eqD (de_v 3 (pv 3)) (de_ix ix_seq os_ix (de_v 0 (pv 0)) (de_un un_neg us_neg de_int)) (nomark _))
    (dss_one (ds_ret de_bl))
    dss_nil)
    (dss_cons (ds_if (dt_tru (de_v 2 (pv 2)))
    (dss_one (ds_ret (de_and (de_cmp op_notN os_notN (de_v 3 (pv 3)) de_non (nomark _)) (de_one (de_cmp op_le os_le (de_v 3 (pv 3)) (de_ix ix_seq os_ix (de_v 0 (pv 0)) de_int) (nomark _))))))
    dss_nil)
    (dss_one (ds_ret (de_or (de_cmp op_isN os_isN (de_v 3 (pv 3)) de_non (nomark _)) (de_one (de_and (de_cmp op_notN os_notN (de_ix ix_seq os_ix (de_v 0 (pv 0)) de_int) de_non (nomark _)) (de_one (de_cmp op_gt os_gt (de_v 3 (pv 3)) (de_ix ix_seq os_ix (de_v 0 (pv 0)) de_int) (nomark _))))))))))), fun ds QD h => ?_⟩)
  · first
      | (obtain ⟨rfl, _⟩ := h; exact ⟨rfl, rfl⟩)
      | (obtain ⟨_, rfl, _⟩ := h; exact ⟨rfl, rfl⟩)
      | (obtain ⟨_, _, rfl, _⟩ := h; exact ⟨rfl, rfl⟩)
      | (obtain ⟨_, _, _, rfl, _⟩ := h; exact ⟨rfl, rfl⟩)
      | (obtain ⟨_, _, _, _, rfl, _⟩ := h; exact ⟨rfl, rfl⟩)
      | (obtain ⟨_, _, _, _, _, rfl, _⟩ := h; exact ⟨rfl, rfl⟩)
      | (obtain ⟨_, _, _, _, _, _, rfl, _⟩ := h; exact ⟨rfl, rfl⟩)
      | (obtain ⟨_, _, _, _, _, _, _, rfl, _⟩ := h; exact ⟨rfl, rfl⟩)
      | (obtain ⟨_, _, _, _, _, _, _, _, rfl, _⟩ := h; exact ⟨rfl, rfl⟩)
      | (obtain ⟨_, _, _, _, _, _, _, _, _, rfl, _⟩ := h; exact ⟨rfl, rfl⟩)
      | (obtain ⟨_, _, _, _, _, _, _, _, _, _, rfl, _⟩ := h; exact ⟨rfl, rfl⟩)
      | (obtain ⟨_, _, _, _, _, _, _, _, _, _, _, rfl, _⟩ := h; exact ⟨rfl, rfl⟩)
  · obtain ⟨xs, x0, y, z, p, ab, rfl, h0, h1, h2, hne, ht, hf, q⟩ := h
    have h0 : atI (xs.map oI) 0 = some (oI x0) := atI_map' h0
    walk_at "go"
    refine ⟨oI z, h1, ?_⟩
    walk_at "go"
    refine ⟨oI y, h2, ?_⟩
    refine ⟨(shp_oI z).ok, (shp_oI y).ok, ?_⟩
    rw [eqv_oI, decide_eq_false hne]
    cases ab with
    | true =>
      obtain ⟨a, rfl, hz⟩ := ht rfl
      clear ht hf
      cases z with
      | none =>
        walk_at "ax"
        exact q
      | some b =>
        have := hz b rfl
        walk_at "ax"
        refine ⟨oI (some a), h0, ?_⟩
        walk_at "ax"
        have e : decide (b ≤ a) = false := decide_eq_false (by omega)
        show QD (D.sh (P.bl (decide (b ≤ a)))) _
        rw [e]
        exact q
    | false =>
      obtain ⟨b, rfl, hz⟩ := hf rfl
      clear ht hf
      walk_at "ax"
      refine ⟨oI x0, h0, ?_⟩
      cases x0 with
      | none =>
        walk_at "ax"
        exact q
      | some a =>
        have := hz a rfl
        walk_at "ax"
        refine ⟨oI (some a), h0, ?_⟩
        walk_at "ax"
        have e : decide (a < b) = false := decide_eq_false (by omega)
        show QD (D.sh (P.bl (decide (a < b)))) _
        rw [e]
        exact q
/-! ### _law_up_count -/
abbrev s__law_up_count : Stmt := topS 40
theorem sc__law_up_count : FnScope ["pace", "flat", "edge", "needed", "purse", "value", "count"] ["pace", "flat", "edge", "needed", "purse"] (defScope s__law_up_count) := ⟨rfl, rfl, rfl, by decide +kernel, rfl, by decide +kernel, by decide +kernel⟩
def fs__law_up_count (cNeed : Addr) : FSp := fun ds Q => ∃ (pace flat e k p : Int), ds = [.sh (.int pace), .sh (.int flat), .sh (.int e), .sh (.int k), .sh (.int p)] ∧ UpB pace flat e k p ∧ (∀ r : Int, RM.Least (fun j => RM.Exc p (RM.it (nval (upN pace flat e)) j (some k))) (some r) → Q (.sh (.int r)) ds)
theorem ok__law_up_count {Pg : Program} {w : World} {K : PySem.W.Frag} {mg : Str → Option Value} {base : Heap} {a : Addr} {fd : FuncData} (F : L2.Fun K "_law_up_count" "_law_up_count" s__law_up_count a fd)
    (m_min : mg "min" = none)
    {cNeed : Addr} (T : Txt K mg cNeed) :
    FnOk Pg w K mg base CX0 1 a fd ["pace", "flat", "edge", "needed", "purse"] (spD K (fs__law_up_count cNeed)) := by
  have n_Need_start : ClsA K cNeed "start" := ⟨T.cl_Need, T.n_Need_start⟩
  have n_Need_rises : ClsA K cNeed "rises" := ⟨T.cl_Need, T.n_Need_rises⟩
  have n_Need_never : ClsA K cNeed "never" := ⟨T.cl_Need, T.n_Need_never⟩
  have n_Need__values : ClsA K cNeed "_values" := ⟨T.cl_Need, T.n_Need__values⟩
  have is_Need := T.is_Need
  refine Fun.okD [] F sc__law_up_count (fun ds QD h => ?_) (fun cdv A outer s H E hr => ⟨_, _, (dss_cons (ds_asg (de_v 3 (pv 3)) (dg_name (pg_name (i := 5) sc__law_up_count.nd rfl (by first | exact .inl rfl | exact .inr rfl))))
    (dss_cons (ds_asg de_int (dg_name (pg_name (i := 6) sc__law_up_count.nd rfl (by first | exact .inl rfl | exact .inr rfl))))
    (dss_mid (ds_if (DW.pt (dw_and (dt_cmp op_le os_le (de_v 5 (pv 5)) (de_v 4 (pv 4)) (nomark _)) (dw_and1 (dt_cmp op_le os_le (de_v 5 (pv 5)) (de_v 2 (pv 2)) (nomark _)))))
    (dss_cons (ds_asg (de_op op_add os_add (de_op op_fdivW os_div (de_op op_sub os_sub (de_cb (fun h => pe_callB (call_min2 rfl) (by rfl) m_min (by decide +kernel) h) cs_min2 (da_cons (de_v 4 (pv 4)) (da_cons (de_v 2 (pv 2)) da_nil))) (de_v 5 (pv 5))) (de_v 0 (pv 0))) de_int) (dg_name (pg_name (i := 6) sc__law_up_count.nd rfl (by first | exact .inl rfl | exact .inr rfl))))
    (dss_one (ds_asg (de_op op_add os_add (de_v 5 (pv 5)) (de_op op_mulW os_mul (de_v 0 (pv 0)) (de_v 6 (pv 6)))) (dg_name (pg_name (i := 5) sc__law_up_count.nd rfl (by first | exact .inl rfl | exact .inr rfl))))))
    dss_nil)
    (dss_mid (ds_if (DW.pt (dw_and (dt_cmp op_le os_le (de_v 5 (pv 5)) (de_v 4 (pv 4)) (nomark _)) (dw_and1 (dt_cmp op_lt os_lt (de_v 5 (pv 5)) (de_op op_add os_add (de_v 2 (pv 2)) (de_v 1 (pv 1))) (nomark _)))))
    (dss_cons (ds_asg (de_op op_add os_add (de_v 2 (pv 2)) (de_v 0 (pv 0))) (dg_name (pg_name (i := 5) sc__law_up_count.nd rfl (by first | exact .inl rfl | exact .inr rfl))))
    (dss_one (ds_asg (de_op op_add os_add (de_v 6 (pv 6)) de_int) (dg_name (pg_name (i := 6) sc__law_up_count.nd rfl (by first | exact .inl rfl | exact .inr rfl))))))
    dss_nil)
    (dss_mid (ds_if (dt_cmp op_le os_le (de_v 5 (pv 5)) (de_v 4 (pv 4)) (nomark _))
    (dss_one (ds_asg (de_op op_add os_add (de_op op_add os_add (de_v 6 (pv 6)) (de_op op_fdivW os_div (de_op op_sub os_sub (de_v 4 (pv 4)) (de_v 5 (pv 5))) (de_op op_sub os_sub (de_v 0 (pv 0)) (de_v 1 (pv 1))))) de_int) (dg_name (pg_name (i := 6) sc__law_up_count.nd rfl (by first | exact .inl rfl | exact .inr rfl)))))
    dss_nil)
    (dss_one (ds_ret (de_v 6 (pv 6))))))))), fun ds QD h => ?_⟩)
  · first
      | (obtain ⟨rfl, _⟩ := h; exact ⟨rfl, rfl⟩)
      | (obtain ⟨_, rfl, _⟩ := h; exact ⟨rfl, rfl⟩)
      | (obtain ⟨_, _, rfl, _⟩ := h; exact ⟨rfl, rfl⟩)
      | (obtain ⟨_, _, _, rfl, _⟩ := h; exact ⟨rfl, rfl⟩)
      | (obtain ⟨_, _, _, _, rfl, _⟩ := h; exact ⟨rfl, rfl⟩)
      | (obtain ⟨_, _, _, _, _, rfl, _⟩ := h; exact ⟨rfl, rfl⟩)
      | (obtain ⟨_, _, _, _, _, _, rfl, _⟩ := h; exact ⟨rfl, rfl⟩)
      | (obtain ⟨_, _, _, _, _, _, _, rfl, _⟩ := h; exact ⟨rfl, rfl⟩)
      | (obtain ⟨_, _, _, _, _, _, _, _, rfl, _⟩ := h; exact ⟨rfl, rfl⟩)
      | (obtain ⟨_, _, _, _, _, _, _, _, _, rfl, _⟩ := h; exact ⟨rfl, rfl⟩)
      | (obtain ⟨_, _, _, _, _, _, _, _, _, _, rfl, _⟩ := h; exact ⟨rfl, rfl⟩)
      | (obtain ⟨_, _, _, _, _, _, _, _, _, _, _, rfl, _⟩ := h; exact ⟨rfl, rfl⟩)
  · obtain ⟨pace, flat, e, k, p, rfl, ub, q⟩ := h
    obtain ⟨f1, fp, p1, e1, e2, k0, k1, p0, p2⟩ := ub
    walk_at "au"
    refine ⟨fun env => ∃ (v : Int) (c : Nat), env = [some (.sh (.int pace)), some (.sh (.int flat)), some (.sh (.int e)), some (.sh (.int k)), some (.sh (.int p)), some (.sh (.int v)), some (.sh (.int (c : Int)))] ∧ RM.Wk (nval (upN pace flat e)) (RM.Exc p) (some k) c (some v) ∧ 0 ≤ v ∧ (p < v ∨ e < v), ?_, ?_⟩
    · walk_at "ax"
      · have hd : k ≤ (if e < p then e else p) := by split <;> omega
        obtain ⟨m, hm, h1, h2, h3, h4⟩ := RM.lp hd (show 0 < pace by omega)
        have g : 0 ≤ (m : Int) * pace := Int.mul_nonneg (by omega) (by omega)
        have nn : ∀ j : Nat, 0 ≤ (j : Int) * pace := fun j => Int.mul_nonneg (by omega) (by omega)
        rw [← hm]
        refine ⟨cmul_of 200 300 ⟨by omega, by omega⟩ ⟨by omega, by omega⟩, ?_⟩
        walk_at "ax"
        refine ⟨k + pace * (m : Int), m, by rw [hm]; rfl, ?_, ?_, ?_⟩
        · have w1 : RM.Wk (nval (upN pace flat e)) (RM.Exc p) (some k) (0 + m) (some (k + (m : Int) * pace)) := (RM.Wk.zero (some k)).stride (RM.str_of fun j hj => by
            have := h2 j hj
            have := nn j
            have hle : k + (j : Int) * pace ≤ e := by split at * <;> omega
            rw [up_val (by omega) e1 f1, if_pos hle]) fun j hj a => by
            have := h2 j hj
            have := exc_some.mp a
            split at * <;> omega
          rw [Nat.zero_add] at w1
          rw [Int.mul_comm pace]
          exact w1
        · rw [Int.mul_comm pace]; omega
        · rw [Int.mul_comm pace]; split at * <;> omega
      · exact ⟨k, 0, rfl, .zero _, k0, by omega⟩
      · exact ⟨k, 0, rfl, .zero _, k0, by omega⟩
    rintro _ ⟨v, c, rfl, w, v0, hv⟩
    walk_at "au"
    refine ⟨fun env => ∃ (v : Int) (c : Nat), env = [some (.sh (.int pace)), some (.sh (.int flat)), some (.sh (.int e)), some (.sh (.int k)), some (.sh (.int p)), some (.sh (.int v)), some (.sh (.int (c : Int)))] ∧ RM.Wk (nval (upN pace flat e)) (RM.Exc p) (some k) c (some v) ∧ 0 ≤ v ∧ (p < v ∨ e + flat ≤ v), ?_, ?_⟩
    · walk_at "ax"
      · refine ⟨e + pace, c + 1, rfl, w.one (fun a => by have := exc_some.mp a; omega) ?_, by omega, by omega⟩
        rw [up_val v0 e1 f1, if_neg (by omega), if_pos (by omega)]
      · exact ⟨v, c, rfl, w, v0, by omega⟩
      · exact ⟨v, c, rfl, w, v0, by omega⟩
    clear w v0 hv
    rintro _ ⟨v, c, rfl, w, v0, hv⟩
    walk_at "au"
    refine ⟨fun env => ∃ (r : Int), env = [some (.sh (.int pace)), some (.sh (.int flat)), some (.sh (.int e)), some (.sh (.int k)), some (.sh (.int p)), some (.sh (.int v)), some (.sh (.int r))] ∧ RM.Least (fun j => RM.Exc p (RM.it (nval (upN pace flat e)) j (some k))) (some r), ?_, ?_⟩
    · walk_at "ax"
      · obtain ⟨m, hm, h1, h2, h3, h4⟩ := RM.lp (v := v) (d := p) (by omega) (show 0 < pace - flat by omega)
        have nn : ∀ j : Nat, 0 ≤ (j : Int) * (pace - flat) := fun j => Int.mul_nonneg (by omega) (by omega)
        have w2 := w.stride (m := m) (ch := pace - flat) (RM.str_of fun j hj => by
          have := nn j
          rw [up_val (by omega) e1 f1, if_neg (by omega)]
          split
          · rename_i hle
            have : v + (j : Int) * (pace - flat) = e + flat := by omega
            rw [this]
            congr 1; omega
          · rfl) fun j hj a => by
            have := h2 j hj
            have := exc_some.mp a
            omega
        have d := w2.done (exc_some.mpr h3)
        refine ⟨_, rfl, ?_⟩
        rw [show (c : Int) + (p - v) / (pace - flat) + 1 = ((c + m : Nat) : Int) by omega]
        exact d
      · exact ⟨_, rfl, w.done (exc_some.mpr (by omega))⟩
    rintro _ ⟨r, rfl, hr⟩
    walk_at "au"
    exact q r hr
/-! ### _law_up_value -/
abbrev s__law_up_value : Stmt := topS 41
theorem sc__law_up_value : FnScope ["pace", "flat", "edge", "needed", "limit", "value", "left", "turns"] ["pace", "flat", "edge", "needed", "limit"] (defScope s__law_up_value) := ⟨rfl, rfl, rfl, by decide +kernel, rfl, by decide +kernel, by decide +kernel⟩
def fs__law_up_value (cNeed : Addr) : FSp := fun ds Q => ∃ (pace flat e k L : Int), ds = [.sh (.int pace), .sh (.int flat), .sh (.int e), .sh (.int k), .sh (.int L)] ∧ UpB pace flat e k L ∧ (∀ w : Int, RM.it (nval (upN pace flat e)) L.toNat (some k) = some w → Q (.sh (.int w)) ds)
theorem ok__law_up_value {Pg : Program} {w : World} {K : PySem.W.Frag} {mg : Str → Option Value} {base : Heap} {a : Addr} {fd : FuncData} (F : L2.Fun K "_law_up_value" "_law_up_value" s__law_up_value a fd)
    (m_min : mg "min" = none)
    {cNeed : Addr} (T : Txt K mg cNeed) :
    FnOk Pg w K mg base CX0 1 a fd ["pace", "flat", "edge", "needed", "limit"] (spD K (fs__law_up_value cNeed)) := by
  have n_Need_start : ClsA K cNeed "start" := ⟨T.cl_Need, T.n_Need_start⟩
  have n_Need_rises : ClsA K cNeed "rises" := ⟨T.cl_Need, T.n_Need_rises⟩
  have n_Need_never : ClsA K cNeed "never" := ⟨T.cl_Need, T.n_Need_never⟩
  have n_Need__values : ClsA K cNeed "_values" := ⟨T.cl_Need, T.n_Need__values⟩
  have is_Need := T.is_Need
  refine Fun.okD [] F sc__law_up_value (fun ds QD h => ?_) (fun cdv A outer s H E hr => ⟨_, _, (dss_cons (ds_asg (de_v 3 (pv 3)) (dg_name (pg_name (i := 5) sc__law_up_value.nd rfl (by first | exact .inl rfl | exact .inr rfl))))
    (dss_cons (ds_asg (de_v 4 (pv 4)) (dg_name (pg_name (i := 6) sc__law_up_value.nd rfl (by first | exact .inl rfl | exact .inr rfl))))
    (dss_mid (ds_if (DW.pt (dw_and (dt_cmp op_gt os_gt (de_v 6 (pv 6)) de_int (nomark _)) (dw_and1 (dt_cmp op_le os_le (de_v 5 (pv 5)) (de_v 2 (pv 2)) (nomark _)))))
    (dss_cons (ds_asg (de_cb (fun h => pe_callB (call_min2 rfl) (by rfl) m_min (by decide +kernel) h) cs_min2 (da_cons (de_v 6 (pv 6)) (da_cons (de_op op_add os_add (de_op op_fdivW os_div (de_op op_sub os_sub (de_v 2 (pv 2)) (de_v 5 (pv 5))) (de_v 0 (pv 0))) de_int) da_nil))) (dg_name (pg_name (i := 7) sc__law_up_value.nd rfl (by first | exact .inl rfl | exact .inr rfl))))
    (dss_cons (ds_asg (de_op op_add os_add (de_v 5 (pv 5)) (de_op op_mulW os_mul (de_v 0 (pv 0)) (de_v 7 (pv 7)))) (dg_name (pg_name (i := 5) sc__law_up_value.nd rfl (by first | exact .inl rfl | exact .inr rfl))))
    (dss_one (ds_asg (de_op op_sub os_sub (de_v 6 (pv 6)) (de_v 7 (pv 7))) (dg_name (pg_name (i := 6) sc__law_up_value.nd rfl (by first | exact .inl rfl | exact .inr rfl)))))))
    dss_nil)
    (dss_mid (ds_if (DW.pt (dw_and (dt_cmp op_gt os_gt (de_v 6 (pv 6)) de_int (nomark _)) (dw_and1 (dt_cmp op_lt os_lt (de_v 5 (pv 5)) (de_op op_add os_add (de_v 2 (pv 2)) (de_v 1 (pv 1))) (nomark _)))))
    (dss_cons (ds_asg (de_op op_add os_add (de_v 2 (pv 2)) (de_v 0 (pv 0))) (dg_name (pg_name (i := 5) sc__law_up_value.nd rfl (by first | exact .inl rfl | exact .inr rfl))))
    (dss_one (ds_asg (de_op op_sub os_sub (de_v 6 (pv 6)) de_int) (dg_name (pg_name (i := 6) sc__law_up_value.nd rfl (by first | exact .inl rfl | exact .inr rfl))))))
    dss_nil)
    (dss_one (ds_ret (de_op op_add os_add (de_v 5 (pv 5)) (de_op op_mulW os_mul (de_op op_sub os_sub (de_v 0 (pv 0)) (de_v 1 (pv 1))) (de_v 6 (pv 6)))))))))), fun ds QD h => ?_⟩)
  · first
      | (obtain ⟨rfl, _⟩ := h; exact ⟨rfl, rfl⟩)
      | (obtain ⟨_, rfl, _⟩ := h; exact ⟨rfl, rfl⟩)
      | (obtain ⟨_, _, rfl, _⟩ := h; exact ⟨rfl, rfl⟩)
      | (obtain ⟨_, _, _, rfl, _⟩ := h; exact ⟨rfl, rfl⟩)
      | (obtain ⟨_, _, _, _, rfl, _⟩ := h; exact ⟨rfl, rfl⟩)
      | (obtain ⟨_, _, _, _, _, rfl, _⟩ := h; exact ⟨rfl, rfl⟩)
      | (obtain ⟨_, _, _, _, _, _, rfl, _⟩ := h; exact ⟨rfl, rfl⟩)
      | (obtain ⟨_, _, _, _, _, _, _, rfl, _⟩ := h; exact ⟨rfl, rfl⟩)
      | (obtain ⟨_, _, _, _, _, _, _, _, rfl, _⟩ := h; exact ⟨rfl, rfl⟩)
      | (obtain ⟨_, _, _, _, _, _, _, _, _, rfl, _⟩ := h; exact ⟨rfl, rfl⟩)
      | (obtain ⟨_, _, _, _, _, _, _, _, _, _, rfl, _⟩ := h; exact ⟨rfl, rfl⟩)
      | (obtain ⟨_, _, _, _, _, _, _, _, _, _, _, rfl, _⟩ := h; exact ⟨rfl, rfl⟩)
  · obtain ⟨pace, flat, e, k, L, rfl, ub, q⟩ := h
    obtain ⟨f1, fp, p1, e1, e2, k0, k1, p0, p2⟩ := ub
    walk_at "au"
    refine ⟨fun env => ∃ (v l : Int) (u : Option D), env = [some (.sh (.int pace)), some (.sh (.int flat)), some (.sh (.int e)), some (.sh (.int k)), some (.sh (.int L)), some (.sh (.int v)), some (.sh (.int l)), u] ∧ 0 ≤ l ∧ l ≤ L ∧ RM.it (nval (upN pace flat e)) l.toNat (some v) = RM.it (nval (upN pace flat e)) L.toNat (some k) ∧ 0 ≤ v ∧ (l = 0 ∨ e < v), ?_, ?_⟩
    · walk_at "ax"
      · obtain ⟨m, hm, h1, h2, h3, h4⟩ := RM.lp (v := k) (d := e) (by omega) (show 0 < pace by omega)
        have nn : ∀ j : Nat, 0 ≤ (j : Int) * pace := fun j => Int.mul_nonneg (by omega) (by omega)
        obtain ⟨t, ht⟩ : ∃ t : Nat, (t : Int) = if (e - k) / pace + 1 < L then (e - k) / pace + 1 else L := ⟨if m < L.toNat then m else L.toNat, by rw [← hm]; split <;> split <;> omega⟩
        have htm : t ≤ m ∧ (t : Int) ≤ L := by rw [← hm] at ht; split at ht <;> omega
        have s : RM.Str (nval (upN pace flat e)) k pace t := RM.str_of fun j hj => by
          have hle := h2 j (by omega)
          have := nn j
          rw [up_val (by omega) e1 f1, if_pos hle]
        have hc := s.cut htm.2
        have g0 := nn t
        rw [← ht]
        refine ⟨cmul_of 200 300 ⟨by omega, by omega⟩ ⟨by omega, by omega⟩, ?_⟩
        walk_at "ax"
        refine ⟨k + pace * (t : Int), L - t, _, rfl, by omega, by omega, ?_, by rw [Int.mul_comm]; omega, ?_⟩
        · rw [Int.mul_comm pace]; exact hc
        · by_cases hz : t = m
          · subst hz
            rw [Int.mul_comm]; exact .inr h3
          · left
            rw [← hm] at ht
            split at ht <;> omega
      · exact ⟨k, L, none, rfl, by omega, by omega, rfl, k0, by omega⟩
      · exact ⟨k, L, none, rfl, by omega, by omega, rfl, k0, by omega⟩
    rintro _ ⟨v, l, u, rfl, l0, l1, hi, v0, hv⟩
    walk_at "au"
    refine ⟨fun env => ∃ (v l : Int) (u : Option D), env = [some (.sh (.int pace)), some (.sh (.int flat)), some (.sh (.int e)), some (.sh (.int k)), some (.sh (.int L)), some (.sh (.int v)), some (.sh (.int l)), u] ∧ 0 ≤ l ∧ l ≤ L ∧ RM.it (nval (upN pace flat e)) l.toNat (some v) = RM.it (nval (upN pace flat e)) L.toNat (some k) ∧ 0 ≤ v ∧ (l = 0 ∨ e + flat ≤ v), ?_, ?_⟩
    · walk_at "ax"
      · have hu : nval (upN pace flat e) (some v) = some (e + pace) := by rw [up_val v0 e1 f1, if_neg (by omega), if_pos (by omega)]
        exact ⟨e + pace, l - 1, _, rfl, by omega, by omega, (RM.cut1 hu (by assumption)).trans hi, by omega, by omega⟩
      · exact ⟨v, l, u, rfl, l0, l1, hi, v0, by omega⟩
      · exact ⟨v, l, u, rfl, l0, l1, hi, v0, by omega⟩
    clear l0 l1 hi v0 hv
    rintro _ ⟨v, l, u, rfl, l0, l1, hi, v0, hv⟩
    walk_at "au"
    refine ⟨cmul_of 200 300 ⟨by omega, by omega⟩ ⟨by omega, by omega⟩, ?_⟩
    walk_at "au"
    refine q (v + (pace - flat) * l) ?_
    rw [← hi]
    rcases hv with rfl | hv
    · rw [Int.mul_zero, Int.add_zero]; rfl
    have nn : ∀ j : Nat, 0 ≤ (j : Int) * (pace - flat) := fun j => Int.mul_nonneg (by omega) (by omega)
    have s : RM.Str (nval (upN pace flat e)) v (pace - flat) l.toNat := RM.str_of fun j hj => by
      have := nn j
      rw [up_val (by omega) e1 f1, if_neg (by omega)]
      split
      · rename_i hle
        have : v + (j : Int) * (pace - flat) = e + flat := by omega
        rw [this]
        congr 1; omega
      · rfl
    have := s.it l.toNat (Nat.le_refl _)
    rw [this, Int.mul_comm (pace - flat), show ((l.toNat : Nat) : Int) = l by omega]
/-! ### _law_down_count -/
abbrev s__law_down_count : Stmt := topS 42
theorem sc__law_down_count : FnScope ["base", "pace", "flat", "edge", "needed", "purse", "value", "count"] ["base", "pace", "flat", "edge", "needed", "purse"] (defScope s__law_down_count) := ⟨rfl, rfl, rfl, by decide +kernel, rfl, by decide +kernel, by decide +kernel⟩
def fs__law_down_count (cNeed : Addr) : FSp := fun ds Q => ∃ (base pace flat e k p : Int), ds = [.sh (.int base), .sh (.int pace), .sh (.int flat), .sh (.int e), .sh (.int k), .sh (.int p)] ∧ DnB base pace flat e k p ∧ (∀ r, RM.Least (fun j => RM.Aff p (RM.it (nval (dnN base pace flat e)) j (some k))) r → Q (.sh (oI r)) ds)
theorem ok__law_down_count {Pg : Program} {w : World} {K : PySem.W.Frag} {mg : Str → Option Value} {base : Heap} {a : Addr} {fd : FuncData} (F : L2.Fun K "_law_down_count" "_law_down_count" s__law_down_count a fd)
    (m_min : mg "min" = none)
    {cNeed : Addr} (T : Txt K mg cNeed) :
    FnOk Pg w K mg base CX0 1 a fd ["base", "pace", "flat", "edge", "needed", "purse"] (spD K (fs__law_down_count cNeed)) := by
  have n_Need_start : ClsA K cNeed "start" := ⟨T.cl_Need, T.n_Need_start⟩
  have n_Need_rises : ClsA K cNeed "rises" := ⟨T.cl_Need, T.n_Need_rises⟩
  have n_Need_never : ClsA K cNeed "never" := ⟨T.cl_Need, T.n_Need_never⟩
  have n_Need__values : ClsA K cNeed "_values" := ⟨T.cl_Need, T.n_Need__values⟩
  have is_Need := T.is_Need
  refine Fun.okD [] F sc__law_down_count (fun ds QD h => ?_) (fun cdv A outer s H E hr => ⟨_, _, (dss_cons (ds_asg (de_v 4 (pv 4)) (dg_name (pg_name (i := 6) sc__law_down_count.nd rfl (by first | exact .inl rfl | exact .inr rfl))))
    (dss_cons (ds_asg de_int (dg_name (pg_name (i := 7) sc__law_down_count.nd rfl (by first | exact .inl rfl | exact .inr rfl))))
    (dss_mid (ds_if (DW.pt (dw_and (dt_cmp op_gt os_gt (de_v 6 (pv 6)) (de_v 5 (pv 5)) (nomark _)) (dw_and1 (dt_cmp op_lt os_lt (de_v 5 (pv 5)) (de_v 0 (pv 0)) (nomark _)))))
    (dss_one (ds_ret de_non))
    dss_nil)
    (dss_mid (ds_if (DW.pt (dw_and (dt_cmp op_gt os_gt (de_v 6 (pv 6)) (de_v 5 (pv 5)) (nomark _)) (dw_and1 (dt_cmp op_ge os_ge (de_v 6 (pv 6)) (de_op op_add os_add (de_v 3 (pv 3)) (de_v 2 (pv 2))) (nomark _)))))
    (dss_cons (ds_asg (de_cb (fun h => pe_callB (call_min2 rfl) (by rfl) m_min (by decide +kernel) h) cs_min2 (da_cons (de_op op_add os_add (de_op op_fdivW os_div (de_op op_sub os_sub (de_op op_sub os_sub (de_v 6 (pv 6)) (de_v 3 (pv 3))) (de_v 2 (pv 2))) (de_op op_add os_add (de_v 1 (pv 1)) (de_v 2 (pv 2)))) de_int) (da_cons (de_op op_sub os_sub de_int (de_op op_fdivW os_div (de_op op_sub os_sub (de_v 5 (pv 5)) (de_v 6 (pv 6))) (de_op op_add os_add (de_v 1 (pv 1)) (de_v 2 (pv 2))))) da_nil))) (dg_name (pg_name (i := 7) sc__law_down_count.nd rfl (by first | exact .inl rfl | exact .inr rfl))))
    (dss_one (ds_asg (de_op op_sub os_sub (de_v 6 (pv 6)) (de_op op_mulW os_mul (de_op op_add os_add (de_v 1 (pv 1)) (de_v 2 (pv 2))) (de_v 7 (pv 7)))) (dg_name (pg_name (i := 6) sc__law_down_count.nd rfl (by first | exact .inl rfl | exact .inr rfl))))))
    dss_nil)
    (dss_mid (ds_if (DW.pt (dw_and (dt_cmp op_gt os_gt (de_v 6 (pv 6)) (de_v 5 (pv 5)) (nomark _)) (dw_and1 (dt_cmp op_gt os_gt (de_v 6 (pv 6)) (de_v 3 (pv 3)) (nomark _)))))
    (dss_cons (ds_asg (de_op op_sub os_sub (de_v 3 (pv 3)) (de_v 1 (pv 1))) (dg_name (pg_name (i := 6) sc__law_down_count.nd rfl (by first | exact .inl rfl | exact .inr rfl))))
    (dss_one (ds_asg (de_op op_add os_add (de_v 7 (pv 7)) de_int) (dg_name (pg_name (i := 7) sc__law_down_count.nd rfl (by first | exact .inl rfl | exact .inr rfl))))))
    dss_nil)
    (dss_mid (ds_if (dt_cmp op_gt os_gt (de_v 6 (pv 6)) (de_v 5 (pv 5)) (nomark _))
    (dss_one (ds_asg (de_op op_sub os_sub (de_v 7 (pv 7)) (de_op op_fdivW os_div (de_op op_sub os_sub (de_v 5 (pv 5)) (de_v 6 (pv 6))) (de_v 1 (pv 1)))) (dg_name (pg_name (i := 7) sc__law_down_count.nd rfl (by first | exact .inl rfl | exact .inr rfl)))))
    dss_nil)
    (dss_one (ds_ret (de_v 7 (pv 7)))))))))), fun ds QD h => ?_⟩)
  · first
      | (obtain ⟨rfl, _⟩ := h; exact ⟨rfl, rfl⟩)
      | (obtain ⟨_, rfl, _⟩ := h; exact ⟨rfl, rfl⟩)
      | (obtain ⟨_, _, rfl, _⟩ := h; exact ⟨rfl, rfl⟩)
      | (obtain ⟨_, _, _, rfl, _⟩ := h; exact ⟨rfl, rfl⟩)
      | (obtain ⟨_, _, _, _, rfl, _⟩ := h; exact ⟨rfl, rfl⟩)
      | (obtain ⟨_, _, _, _, _, rfl, _⟩ := h; exact ⟨rfl, rfl⟩)
      | (obtain ⟨_, _, _, _, _, _, rfl, _⟩ := h; exact ⟨rfl, rfl⟩)
      | (obtain ⟨_, _, _, _, _, _, _, rfl, _⟩ := h; exact ⟨rfl, rfl⟩)
      | (obtain ⟨_, _, _, _, _, _, _, _, rfl, _⟩ := h; exact ⟨rfl, rfl⟩)
      | (obtain ⟨_, _, _, _, _, _, _, _, _, rfl, _⟩ := h; exact ⟨rfl, rfl⟩)
      | (obtain ⟨_, _, _, _, _, _, _, _, _, _, rfl, _⟩ := h; exact ⟨rfl, rfl⟩)
      | (obtain ⟨_, _, _, _, _, _, _, _, _, _, _, rfl, _⟩ := h; exact ⟨rfl, rfl⟩)
  · obtain ⟨base, pace, flat, e, k, p, rfl, db, q⟩ := h
    have fall := db.fall
    have never := db.never
    obtain ⟨b0, b1, f1, fp, p1, e1, e2, k0, k1, p0, p2⟩ := db
    walk_at "ax"
    refine ⟨fun env => env = [some (.sh (.int base)), some (.sh (.int pace)), some (.sh (.int flat)), some (.sh (.int e)), some (.sh (.int k)), some (.sh (.int p)), some (.sh (.int k)), some (.sh (.int 0))] ∧ (k ≤ p ∨ base ≤ p), ?_, ?_⟩
    · walk_at "ax"
      · exact q none (never (by assumption) (by assumption))
      · exact ⟨rfl, by omega⟩
      · exact ⟨rfl, by omega⟩
    rintro _ ⟨rfl, hb⟩
    clear never
    walk_at "ax"
    refine ⟨fun env => ∃ (v : Int) (c : Nat), env = [some (.sh (.int base)), some (.sh (.int pace)), some (.sh (.int flat)), some (.sh (.int e)), some (.sh (.int k)), some (.sh (.int p)), some (.sh (.int v)), some (.sh (.int (c : Int)))] ∧ RM.Wk (nval (dnN base pace flat e)) (RM.Aff p) (some k) c (some v) ∧ 0 ≤ v ∧ v < 2 ^ 200 ∧ (v ≤ p ∨ base ≤ p) ∧ (v ≤ p ∨ v < e + flat), ?_, ?_⟩
    · walk_at "ax"
      · obtain ⟨m, hm, h1, h2, h3, h4⟩ := RM.lpd (v := k) (p := p) (by omega) (show 0 < pace + flat by omega)
        obtain ⟨x, hx, g1, g2, g3, g4⟩ := RM.lpd (v := k) (p := e + flat - 1) (by omega) (show 0 < pace + flat by omega)
        have ex : (k - e - flat) / (pace + flat) + 1 = x := by
          have := RM.ceil_neg (d := k - (e + flat - 1)) (show 0 < pace + flat by omega)
          rw [show -(k - (e + flat - 1)) = e + flat - 1 - k by omega, show k - (e + flat - 1) - 1 = k - e - flat by omega] at this
          omega
        obtain ⟨t, ht⟩ : ∃ t : Nat, (t : Int) = if (m : Int) < (x : Int) then (m : Int) else (x : Int) := ⟨if m < x then m else x, by split <;> split <;> omega⟩
        have nn : ∀ j : Nat, (j : Int) * -(pace + flat) ≤ 0 := fun j => by
          have : 0 ≤ (j : Int) * (pace + flat) := Int.mul_nonneg (by omega) (by omega)
          rw [Int.mul_neg]; omega
        obtain ⟨u, rfl⟩ : ∃ u, t = u + 1 := ⟨t - 1, by split at ht <;> omega⟩
        have hj : ∀ j : Nat, j < u + 1 → p < k + (j : Int) * -(pace + flat) ∧ e + flat ≤ k + (j : Int) * -(pace + flat) := fun j hj => by
          have := h2 j (by split at ht <;> omega)
          have := g2 j (by split at ht <;> omega)
          exact ⟨by omega, by omega⟩
        have w2 : RM.Wk (nval (dnN base pace flat e)) (RM.Aff p) (some k) (0 + (u + 1)) (some (k + ((u + 1 : Nat) : Int) * -(pace + flat))) := (RM.Wk.zero (some k)).stride (RM.str_of fun j h => by
            have := hj j h
            rw [dn_val (by omega) e1 f1, if_neg (by omega)]
            split
            · congr 1; omega
            · congr 1) fun j h a => by
            have := (hj j h).1
            have : k + (j : Int) * -(pace + flat) ≤ p := a
            omega
        rw [Nat.zero_add] at w2
        have hu := hj u (by omega)
        have nu := nn u
        have eu : ((u + 1 : Nat) : Int) * -(pace + flat) = (u : Int) * -(pace + flat) - (pace + flat) := by
          rw [show ((u + 1 : Nat) : Int) = (u : Int) + 1 by omega, Int.add_mul, Int.one_mul]; omega
        have em : (pace + flat) * ((u + 1 : Nat) : Int) = -(((u + 1 : Nat) : Int) * -(pace + flat)) := by rw [Int.mul_neg, Int.mul_comm]; omega
        have hend : k + ((u + 1 : Nat) : Int) * -(pace + flat) ≤ p ∨ k + ((u + 1 : Nat) : Int) * -(pace + flat) < e + flat := by
          by_cases hmx : (m : Int) < (x : Int)
          · rw [if_pos hmx] at ht
            rw [ht]; exact .inl h3
          · rw [if_neg hmx] at ht
            rw [ht]; right; omega
        have hz : ((u + 1 : Nat) : Int) ≤ 2 ^ 200 := by split at ht <;> omega
        rw [← hm, ex, ← ht]
        refine ⟨cmul_of 200 300 ⟨by omega, by omega⟩ ⟨by omega, by omega⟩, ?_⟩
        walk_at "ax"
        refine ⟨k - (pace + flat) * ((u + 1 : Nat) : Int), u + 1, by rw [ht, hm, ← ex]; rfl, ?_⟩
        rw [show k - (pace + flat) * ((u + 1 : Nat) : Int) = k + ((u + 1 : Nat) : Int) * -(pace + flat) by rw [em]; omega]
        exact ⟨w2, by omega, by omega, by omega, hend⟩
      · exact ⟨k, 0, rfl, .zero _, k0, k1, by omega, by omega⟩
      · exact ⟨k, 0, rfl, .zero _, k0, k1, by omega, by omega⟩
    rintro _ ⟨v, c, rfl, w, v0, v1, hb, hv⟩
    walk_at "ax"
    refine ⟨fun env => ∃ (v : Int) (c : Nat), env = [some (.sh (.int base)), some (.sh (.int pace)), some (.sh (.int flat)), some (.sh (.int e)), some (.sh (.int k)), some (.sh (.int p)), some (.sh (.int v)), some (.sh (.int (c : Int)))] ∧ RM.Wk (nval (dnN base pace flat e)) (RM.Aff p) (some k) c (some v) ∧ 0 ≤ v ∧ (v ≤ p ∨ base ≤ p) ∧ (v ≤ p ∨ v ≤ e), ?_, ?_⟩
    · walk_at "ax"
      · refine ⟨e - pace, c + 1, rfl, w.one (fun a => by have : v ≤ p := a; omega) ?_, by omega, by omega, by omega⟩
        rw [dn_val v0 e1 f1, if_neg (by omega), if_pos (by omega)]
      · exact ⟨v, c, rfl, w, v0, by omega, by omega⟩
      · exact ⟨v, c, rfl, w, v0, by omega, by omega⟩
    clear w v0 v1 hv hb
    rintro _ ⟨v, c, rfl, w, v0, hb, hv⟩
    walk_at "ax"
    refine ⟨fun env => ∃ (r : Int), env = [some (.sh (.int base)), some (.sh (.int pace)), some (.sh (.int flat)), some (.sh (.int e)), some (.sh (.int k)), some (.sh (.int p)), some (.sh (.int v)), some (.sh (.int r))] ∧ RM.Least (fun j => RM.Aff p (RM.it (nval (dnN base pace flat e)) j (some k))) (some r), ?_, ?_⟩
    · walk_at "ax"
      · exact ⟨_, rfl, fall.least b0 (by omega) (by assumption) (by omega) w⟩
      · exact ⟨_, rfl, w.done (by show v ≤ p; omega)⟩
    rintro _ ⟨r, rfl, hr⟩
    walk_at "au"
    exact q (some r) hr
/-! ### _law_down_value -/
abbrev s__law_down_value : Stmt := topS 43
theorem sc__law_down_value : FnScope ["base", "pace", "flat", "edge", "needed", "limit", "value", "left", "turns"] ["base", "pace", "flat", "edge", "needed", "limit"] (defScope s__law_down_value) := ⟨rfl, rfl, rfl, by decide +kernel, rfl, by decide +kernel, by decide +kernel⟩
def fs__law_down_value (cNeed : Addr) : FSp := fun ds Q => ∃ (base pace flat e k L : Int), ds = [.sh (.int base), .sh (.int pace), .sh (.int flat), .sh (.int e), .sh (.int k), .sh (.int L)] ∧ DnB base pace flat e k L ∧ Q (.sh (oI (minO (some k) (RM.it (nval (dnN base pace flat e)) L.toNat (some k))))) ds
theorem ok__law_down_value {Pg : Program} {w : World} {K : PySem.W.Frag} {mg : Str → Option Value} {base : Heap} {a : Addr} {fd : FuncData} (F : L2.Fun K "_law_down_value" "_law_down_value" s__law_down_value a fd)
    (m_min : mg "min" = none)
    (m_max : mg "max" = none)
    {cNeed : Addr} (T : Txt K mg cNeed) :
    FnOk Pg w K mg base CX0 1 a fd ["base", "pace", "flat", "edge", "needed", "limit"] (spD K (fs__law_down_value cNeed)) := by
  have n_Need_start : ClsA K cNeed "start" := ⟨T.cl_Need, T.n_Need_start⟩
  have n_Need_rises : ClsA K cNeed "rises" := ⟨T.cl_Need, T.n_Need_rises⟩
  have n_Need_never : ClsA K cNeed "never" := ⟨T.cl_Need, T.n_Need_never⟩
  have n_Need__values : ClsA K cNeed "_values" := ⟨T.cl_Need, T.n_Need__values⟩
  have is_Need := T.is_Need
  refine Fun.okD [] F sc__law_down_value (fun ds QD h => ?_) (fun cdv A outer s H E hr => ⟨_, _, (dss_cons (ds_asg (de_v 4 (pv 4)) (dg_name (pg_name (i := 6) sc__law_down_value.nd rfl (by first | exact .inl rfl | exact .inr rfl))))
    (dss_cons (ds_asg (de_v 5 (pv 5)) (dg_name (pg_name (i := 7) sc__law_down_value.nd rfl (by first | exact .inl rfl | exact .inr rfl))))
    (dss_mid (ds_if (DW.pt (dw_and (dt_cmp op_gt os_gt (de_v 7 (pv 7)) de_int (nomark _)) (dw_and1 (dt_cmp op_ge os_ge (de_v 6 (pv 6)) (de_op op_add os_add (de_v 3 (pv 3)) (de_v 2 (pv 2))) (nomark _)))))
    (dss_cons (ds_asg (de_cb (fun h => pe_callB (call_min2 rfl) (by rfl) m_min (by decide +kernel) h) cs_min2 (da_cons (de_v 7 (pv 7)) (da_cons (de_op op_add os_add (de_op op_fdivW os_div (de_op op_sub os_sub (de_op op_sub os_sub (de_v 6 (pv 6)) (de_v 3 (pv 3))) (de_v 2 (pv 2))) (de_op op_add os_add (de_v 1 (pv 1)) (de_v 2 (pv 2)))) de_int) da_nil))) (dg_name (pg_name (i := 8) sc__law_down_value.nd rfl (by first | exact .inl rfl | exact .inr rfl))))
    (dss_cons (ds_asg (de_op op_sub os_sub (de_v 6 (pv 6)) (de_op op_mulW os_mul (de_op op_add os_add (de_v 1 (pv 1)) (de_v 2 (pv 2))) (de_v 8 (pv 8)))) (dg_name (pg_name (i := 6) sc__law_down_value.nd rfl (by first | exact .inl rfl | exact .inr rfl))))
    (dss_one (ds_asg (de_op op_sub os_sub (de_v 7 (pv 7)) (de_v 8 (pv 8))) (dg_name (pg_name (i := 7) sc__law_down_value.nd rfl (by first | exact .inl rfl | exact .inr rfl)))))))
    dss_nil)
    (dss_mid (ds_if (DW.pt (dw_and (dt_cmp op_gt os_gt (de_v 7 (pv 7)) de_int (nomark _)) (dw_and1 (dt_cmp op_gt os_gt (de_v 6 (pv 6)) (de_v 3 (pv 3)) (nomark _)))))
    (dss_cons (ds_asg (de_op op_sub os_sub (de_v 3 (pv 3)) (de_v 1 (pv 1))) (dg_name (pg_name (i := 6) sc__law_down_value.nd rfl (by first | exact .inl rfl | exact .inr rfl))))
    (dss_one (ds_asg (de_op op_sub os_sub (de_v 7 (pv 7)) de_int) (dg_name (pg_name (i := 7) sc__law_down_value.nd rfl (by first | exact .inl rfl | exact .inr rfl))))))
    dss_nil)
    (dss_one (ds_ret (de_cb (fun h => pe_callB (call_min2 rfl) (by rfl) m_min (by decide +kernel) h) cs_min2 (da_cons (de_v 6 (pv 6)) (da_cons (de_cb (fun h => pe_callB (call_max2 rfl) (by rfl) m_max (by decide +kernel) h) cs_max2 (da_cons (de_v 0 (pv 0)) (da_cons (de_op op_sub os_sub (de_v 6 (pv 6)) (de_op op_mulW os_mul (de_v 1 (pv 1)) (de_v 7 (pv 7)))) da_nil))) da_nil))))))))), fun ds QD h => ?_⟩)
  · first
      | (obtain ⟨rfl, _⟩ := h; exact ⟨rfl, rfl⟩)
      | (obtain ⟨_, rfl, _⟩ := h; exact ⟨rfl, rfl⟩)
      | (obtain ⟨_, _, rfl, _⟩ := h; exact ⟨rfl, rfl⟩)
      | (obtain ⟨_, _, _, rfl, _⟩ := h; exact ⟨rfl, rfl⟩)
      | (obtain ⟨_, _, _, _, rfl, _⟩ := h; exact ⟨rfl, rfl⟩)
      | (obtain ⟨_, _, _, _, _, rfl, _⟩ := h; exact ⟨rfl, rfl⟩)
      | (obtain ⟨_, _, _, _, _, _, rfl, _⟩ := h; exact ⟨rfl, rfl⟩)
      | (obtain ⟨_, _, _, _, _, _, _, rfl, _⟩ := h; exact ⟨rfl, rfl⟩)
      | (obtain ⟨_, _, _, _, _, _, _, _, rfl, _⟩ := h; exact ⟨rfl, rfl⟩)
      | (obtain ⟨_, _, _, _, _, _, _, _, _, rfl, _⟩ := h; exact ⟨rfl, rfl⟩)
      | (obtain ⟨_, _, _, _, _, _, _, _, _, _, rfl, _⟩ := h; exact ⟨rfl, rfl⟩)
      | (obtain ⟨_, _, _, _, _, _, _, _, _, _, _, rfl, _⟩ := h; exact ⟨rfl, rfl⟩)
  · obtain ⟨base, pace, flat, e, k, L, rfl, db, q⟩ := h
    have fall := db.fall
    obtain ⟨b0, b1, f1, fp, p1, e1, e2, k0, k1, p0, p2⟩ := db
    walk_at "ax"
    refine ⟨fun env => ∃ (v l : Int) (u : Option D), env = [some (.sh (.int base)), some (.sh (.int pace)), some (.sh (.int flat)), some (.sh (.int e)), some (.sh (.int k)), some (.sh (.int L)), some (.sh (.int v)), some (.sh (.int l)), u] ∧ 0 ≤ l ∧ l ≤ L ∧ RM.it (nval (dnN base pace flat e)) l.toNat (some v) = RM.it (nval (dnN base pace flat e)) L.toNat (some k) ∧ 0 ≤ v ∧ (v = k ∨ (base ≤ v ∧ v ≤ k)) ∧ (l = 0 ∨ v < e + flat), ?_, ?_⟩
    · walk_at "ax"
      · obtain ⟨x, hx, g1, g2, g3, g4⟩ := RM.lpd (v := k) (p := e + flat - 1) (by omega) (show 0 < pace + flat by omega)
        have ex : (k - e - flat) / (pace + flat) + 1 = x := by
          have := RM.ceil_neg (d := k - (e + flat - 1)) (show 0 < pace + flat by omega)
          rw [show -(k - (e + flat - 1)) = e + flat - 1 - k by omega, show k - (e + flat - 1) - 1 = k - e - flat by omega] at this
          omega
        obtain ⟨t, ht⟩ : ∃ t : Nat, (t : Int) = if (x : Int) < L then (x : Int) else L := ⟨if x < L.toNat then x else L.toNat, by split <;> split <;> omega⟩
        have nn : ∀ j : Nat, (j : Int) * -(pace + flat) ≤ 0 := fun j => by
          have : 0 ≤ (j : Int) * (pace + flat) := Int.mul_nonneg (by omega) (by omega)
          rw [Int.mul_neg]; omega
        obtain ⟨u, rfl⟩ : ∃ u, t = u + 1 := ⟨t - 1, by split at ht <;> omega⟩
        have hj : ∀ j : Nat, j < u + 1 → e + flat ≤ k + (j : Int) * -(pace + flat) := fun j hj => by
          have := g2 j (by split at ht <;> omega)
          omega
        have s : RM.Str (nval (dnN base pace flat e)) k (-(pace + flat)) (u + 1) := RM.str_of fun j h => by
          have := hj j h
          rw [dn_val (by omega) e1 f1, if_neg (by omega)]
          split
          · congr 1; omega
          · congr 1
        have hL : ((u + 1 : Nat) : Int) ≤ L := by split at ht <;> omega
        have hc := s.cut hL
        have hu := hj u (by omega)
        have nu := nn u
        have eu : ((u + 1 : Nat) : Int) * -(pace + flat) = (u : Int) * -(pace + flat) - (pace + flat) := by
          rw [show ((u + 1 : Nat) : Int) = (u : Int) + 1 by omega, Int.add_mul, Int.one_mul]; omega
        have em : (pace + flat) * ((u + 1 : Nat) : Int) = -(((u + 1 : Nat) : Int) * -(pace + flat)) := by rw [Int.mul_neg, Int.mul_comm]; omega
        have hend : L - ((u + 1 : Nat) : Int) = 0 ∨ k + ((u + 1 : Nat) : Int) * -(pace + flat) < e + flat := by
          by_cases hmx : (x : Int) < L
          · rw [if_pos hmx] at ht
            rw [ht]; right; omega
          · rw [if_neg hmx] at ht
            rw [ht]; left; omega
        have hz : ((u + 1 : Nat) : Int) ≤ 2 ^ 200 := by omega
        rw [ex, ← ht]
        refine ⟨cmul_of 200 300 ⟨by omega, by omega⟩ ⟨by omega, by omega⟩, ?_⟩
        walk_at "ax"
        refine ⟨k - (pace + flat) * ((u + 1 : Nat) : Int), L - ((u + 1 : Nat) : Int), _, by rw [ht, ← ex]; rfl, by omega, by omega, ?_⟩
        rw [show k - (pace + flat) * ((u + 1 : Nat) : Int) = k + ((u + 1 : Nat) : Int) * -(pace + flat) by rw [em]; omega]
        exact ⟨hc, by omega, by omega, hend⟩
      · exact ⟨k, L, none, rfl, by omega, by omega, rfl, k0, .inl rfl, by omega⟩
      · exact ⟨k, L, none, rfl, by omega, by omega, rfl, k0, .inl rfl, by omega⟩
    rintro _ ⟨v, l, u, rfl, l0, l1, hi, v0, hk, hv⟩
    walk_at "ax"
    refine ⟨fun env => ∃ (v l : Int) (u : Option D), env = [some (.sh (.int base)), some (.sh (.int pace)), some (.sh (.int flat)), some (.sh (.int e)), some (.sh (.int k)), some (.sh (.int L)), some (.sh (.int v)), some (.sh (.int l)), u] ∧ 0 ≤ l ∧ l ≤ L ∧ RM.it (nval (dnN base pace flat e)) l.toNat (some v) = RM.it (nval (dnN base pace flat e)) L.toNat (some k) ∧ 0 ≤ v ∧ (v = k ∨ (base ≤ v ∧ v ≤ k)) ∧ (l = 0 ∨ v ≤ e), ?_, ?_⟩
    · walk_at "ax"
      · have hu : nval (dnN base pace flat e) (some v) = some (e - pace) := by rw [dn_val v0 e1 f1, if_neg (by omega), if_pos (by omega)]
        exact ⟨e - pace, l - 1, _, rfl, by omega, by omega, (RM.cut1 hu (by assumption)).trans hi, by omega, by omega, by omega⟩
      · exact ⟨v, l, u, rfl, l0, l1, hi, v0, hk, by omega⟩
      · exact ⟨v, l, u, rfl, l0, l1, hi, v0, hk, by omega⟩
    clear l0 l1 hi v0 hk hv
    rintro _ ⟨v, l, u, rfl, l0, l1, hi, v0, hk, hv⟩
    rw [← hi] at q
    walk_at "ax"
    refine ⟨cmul_of 200 300 ⟨by omega, by omega⟩ ⟨by omega, by omega⟩, ?_⟩
    walk_at "ax"
    have hp : 0 ≤ l * pace := Int.mul_nonneg l0 (by omega)
    rcases hv with rfl | hv
    · have e1 : minO (some k) (RM.it (nval (dnN base pace flat e)) (0 : Int).toNat (some v)) = some (if (if v - pace * 0 > base then v - pace * 0 else base) < v then (if v - pace * 0 > base then v - pace * 0 else base) else v) := by
        show some (if v < k then v else k) = _
        congr 1
        rw [Int.mul_zero]
        split <;> split <;> split <;> omega
      rw [e1] at q
      exact q
    · obtain ⟨m, hm⟩ : ∃ m, l.toNat = m := ⟨_, rfl⟩
      have e1 : minO (some k) (RM.it (nval (dnN base pace flat e)) l.toNat (some v)) = some (if (if v - pace * l > base then v - pace * l else base) < v then (if v - pace * l > base then v - pace * l else base) else v) := by
        rw [Int.mul_comm pace]
        cases m with
        | zero =>
          rw [hm]
          have : l = 0 := by omega
          subst this
          show some (if v < k then v else k) = _
          congr 1
          rw [Int.zero_mul]
          split <;> split <;> split <;> omega
        | succ m =>
          rw [hm, fall.it b0 v0 hv m, show (m : Int) + 1 = l by omega]
          show some (if _ < k then _ else k) = _
          congr 1
          generalize l * pace = x at *
          split <;> split <;> split <;> (try split) <;> omega
      rw [e1] at q
      exact q
/-! ### value_at -/
abbrev s_value_at : Stmt := topS 12
theorem sc_value_at : FnScope ["start", "rises", "values", "k", "at", "low", "high"] ["start", "rises", "values", "k"] (defScope s_value_at) := ⟨rfl, rfl, rfl, by decide +kernel, rfl, by decide +kernel, by decide +kernel⟩
def fs_value_at (cNeed : Addr) : FSp := fun ds Q => ∃ (s : Int) (rs : List Pr) (k : Int), ds = [.sh (.int s), .sh (.tup (pRs rs)), .sh (.tup (pI (lowsF s rs))), .sh (.int k)] ∧ Asc (-1) rs ∧ rs.length ≤ 1000 ∧ Q (.sh (.int (val s rs k))) ds
theorem ok_value_at {Pg : Program} {w : World} {K : PySem.W.Frag} {mg : Str → Option Value} {base : Heap} {a : Addr} {fd : FuncData} (F : L2.Fun K "value_at" "value_at" s_value_at a fd)
    (m_min : mg "min" = none)
    {cNeed : Addr} (T : Txt K mg cNeed)
    {a_pair_at : Addr} {d_pair_at : FuncData} (C_pair_at : Callee Pg w K mg base 1 "pair_at" a_pair_at d_pair_at ["rises", "k"] (fs_pair_at cNeed)) :
    FnOk Pg w K mg base CX0 2 a fd ["start", "rises", "values", "k"] (spD K (fs_value_at cNeed)) := by
  have n_Need_start : ClsA K cNeed "start" := ⟨T.cl_Need, T.n_Need_start⟩
  have n_Need_rises : ClsA K cNeed "rises" := ⟨T.cl_Need, T.n_Need_rises⟩
  have n_Need_never : ClsA K cNeed "never" := ⟨T.cl_Need, T.n_Need_never⟩
  have n_Need__values : ClsA K cNeed "_values" := ⟨T.cl_Need, T.n_Need__values⟩
  have is_Need := T.is_Need
  refine Fun.okD [] F sc_value_at (fun ds QD h => ?_) (fun cdv A outer s H E hr => ⟨_, _, (dss_cons (ds_asg (de_o (do_callP (fun h => pe_call C_pair_at.ok hr (by rfl) C_pair_at.g C_pair_at.kp C_pair_at.b .nil pass0 h) (da_cons (de_v 1 (pv 1)) (da_cons (de_v 3 (pv 3)) da_nil)))) (dg_name (pg_name (i := 4) sc_value_at.nd rfl (by first | exact .inl rfl | exact .inr rfl))))
    (dss_cons (ds_if (dt_cmp op_lt os_lt (de_v 4 (pv 4)) de_int (nomark _))
    (dss_one (ds_ret (de_v 0 (pv 0))))
    dss_nil)
    (dss_cons (ds_asg (de_ix ix_seq os_ix (de_v 1 (pv 1)) (de_v 4 (pv 4))) (dg_seq (fun h => pg_tup rfl h) (fun h => pg_unl rfl h) (dgs_cons (dg_name (pg_name (i := 5) sc_value_at.nd rfl (by first | exact .inl rfl | exact .inr rfl))) (dgs_cons (dg_name (pg_name (i := 6) sc_value_at.nd rfl (by first | exact .inl rfl | exact .inr rfl))) dgs_nil))))
    (dss_one (ds_ret (de_op op_sub os_sub (de_op op_add os_add (de_ix ix_seq os_ix (de_v 2 (pv 2)) (de_v 4 (pv 4))) (de_ifExp (dt_cmp op_isN os_isN (de_v 6 (pv 6)) de_non (nomark _)) (de_v 3 (pv 3)) (de_cb (fun h => pe_callB (call_min2 rfl) (by rfl) m_min (by decide +kernel) h) cs_min2 (da_cons (de_v 3 (pv 3)) (da_cons (de_v 6 (pv 6)) da_nil))))) (de_v 5 (pv 5)))))))), fun ds QD h => ?_⟩)
  · first
      | (obtain ⟨rfl, _⟩ := h; exact ⟨rfl, rfl⟩)
      | (obtain ⟨_, rfl, _⟩ := h; exact ⟨rfl, rfl⟩)
      | (obtain ⟨_, _, rfl, _⟩ := h; exact ⟨rfl, rfl⟩)
      | (obtain ⟨_, _, _, rfl, _⟩ := h; exact ⟨rfl, rfl⟩)
      | (obtain ⟨_, _, _, _, rfl, _⟩ := h; exact ⟨rfl, rfl⟩)
      | (obtain ⟨_, _, _, _, _, rfl, _⟩ := h; exact ⟨rfl, rfl⟩)
      | (obtain ⟨_, _, _, _, _, _, rfl, _⟩ := h; exact ⟨rfl, rfl⟩)
      | (obtain ⟨_, _, _, _, _, _, _, rfl, _⟩ := h; exact ⟨rfl, rfl⟩)
      | (obtain ⟨_, _, _, _, _, _, _, _, rfl, _⟩ := h; exact ⟨rfl, rfl⟩)
      | (obtain ⟨_, _, _, _, _, _, _, _, _, rfl, _⟩ := h; exact ⟨rfl, rfl⟩)
      | (obtain ⟨_, _, _, _, _, _, _, _, _, _, rfl, _⟩ := h; exact ⟨rfl, rfl⟩)
      | (obtain ⟨_, _, _, _, _, _, _, _, _, _, _, rfl, _⟩ := h; exact ⟨rfl, rfl⟩)
  · obtain ⟨s, rs, k, rfl, ha, hl, q⟩ := h
    walk_at "au"
    refine ⟨true, rs, k, rfl, ha, hl, fun n hn h1 h2 => ?_⟩
    walk_at "au"
    · have h0 : n = 0 := by omega
      subst h0
      have e : val s rs k = s := by
        unfold val
        rw [NM.vsum_lt fun j p hp => h2 j p hp (Nat.zero_le _)]
        omega
      rw [e] at q
      exact q
    · obtain ⟨m, rfl⟩ : ∃ m, n = m + 1 := ⟨n - 1, by omega⟩
      obtain ⟨⟨lo, hi⟩, hp⟩ : ∃ p, rs[m]? = some p := ⟨_, List.getElem?_eq_getElem (by omega)⟩
      have em : ((m + 1 : Nat) : Int) - 1 = (m : Int) := by omega
      obtain ⟨w, hw, ev⟩ := NM.val_at (v := s) ha hp (h1 m _ hp (by omega)) fun q' hq => h2 _ q' hq (by omega)
      rw [em]
      refine ⟨_, atI_map' hp, ?_⟩
      walk_at "au"
      refine ⟨_, atI_map' hw, ?_⟩
      cases hi with
      | none =>
        walk_at "au"
        rw [← show w + k - lo = val s rs k from ev] at q
        exact q
      | some g =>
        walk_at "au"
        rw [← show w + (if g < k then g else k) - lo = val s rs k from ev] at q
        exact q
/-! ### check_need -/
abbrev s_check_need : Stmt := topS 22
theorem sc_check_need : FnScope ["start", "rises", "never"] ["start", "rises", "never"] (defScope s_check_need) := ⟨rfl, rfl, rfl, by decide +kernel, rfl, by decide +kernel, by decide +kernel⟩
def fs_check_need (cNeed : Addr) : FSp := fun ds Q => ∃ (t : Bool) (n : Nd), ds = [.sh (oI n.s), .sh (sq t (pRs n.rs)), .sh (oI n.nv)] ∧ NOk n ∧ Q (.sh .non) ds
theorem ok_check_need {Pg : Program} {w : World} {K : PySem.W.Frag} {mg : Str → Option Value} {base : Heap} {a : Addr} {fd : FuncData} (F : L2.Fun K "check_need" "check_need" s_check_need a fd)
    (m_len : mg "len" = none)
    {cNeed : Addr} (T : Txt K mg cNeed)
    {a_are_rises : Addr} {d_are_rises : FuncData} (C_are_rises : Callee Pg w K mg base 1 "are_rises" a_are_rises d_are_rises ["pairs"] (fs_are_rises cNeed))
    {a_is_open : Addr} {d_is_open : FuncData} (C_is_open : Callee Pg w K mg base 1 "is_open" a_is_open d_is_open ["rises"] (fs_is_open cNeed))
    {a_greatest_value : Addr} {d_greatest_value : FuncData} (C_greatest_value : Callee Pg w K mg base 1 "greatest_value" a_greatest_value d_greatest_value ["start", "rises"] (fs_greatest_value cNeed)) :
    FnOk Pg w K mg base CX0 2 a fd ["start", "rises", "never"] (spD K (fs_check_need cNeed)) := by
  have n_Need_start : ClsA K cNeed "start" := ⟨T.cl_Need, T.n_Need_start⟩
  have n_Need_rises : ClsA K cNeed "rises" := ⟨T.cl_Need, T.n_Need_rises⟩
  have n_Need_never : ClsA K cNeed "never" := ⟨T.cl_Need, T.n_Need_never⟩
  have n_Need__values : ClsA K cNeed "_values" := ⟨T.cl_Need, T.n_Need__values⟩
  have is_Need := T.is_Need
  refine Fun.okD [] F sc_check_need (fun ds QD h => ?_) (fun cdv A outer s H E hr => ⟨_, _, (dss_cons (ds_if (DW.pt (dw_and (dt_cmp op_notN os_notN (de_v 0 (pv 0)) de_non (nomark _)) (dw_and1 (dt_cmp op_lt os_lt (de_v 0 (pv 0)) de_int (nomark _)))))
    (dss_one ds_never)
    dss_nil)
    (dss_cons (ds_if (DW.pt (dw_or (dt_not (dt_tru (de_o (do_callP (fun h => pe_call C_are_rises.ok hr (by rfl) C_are_rises.g C_are_rises.kp C_are_rises.b .nil pass0 h) (da_cons (de_v 1 (pv 1)) da_nil))))) (dw_or1 (DW.pt (dw_and (dt_cmp op_isN os_isN (de_v 0 (pv 0)) de_non (nomark _)) (dw_and1 (dt_cmp op_gt os_gt (de_cb (fun h => pe_callB call_len (by rfl) m_len PySem.boot_len h) cs_len (da_cons (de_v 1 (pv 1)) da_nil)) de_int (nomark _))))))))
    (dss_one ds_never)
    dss_nil)
    (dss_one (ds_if (dt_cmp op_notN os_notN (de_v 2 (pv 2)) de_non (nomark _))
    (dss_one (ds_if (DW.pt (dw_or (dt_cmp op_isN os_isN (de_v 0 (pv 0)) de_non (nomark _)) (dw_or (dt_tru (de_o (do_callP (fun h => pe_call C_is_open.ok hr (by rfl) C_is_open.g C_is_open.kp C_is_open.b .nil pass0 h) (da_cons (de_v 1 (pv 1)) da_nil)))) (dw_or1 (dt_cmp op_lt os_lt (de_v 2 (pv 2)) (de_o (do_callP (fun h => pe_call C_greatest_value.ok hr (by rfl) C_greatest_value.g C_greatest_value.kp C_greatest_value.b .nil pass0 h) (da_cons (de_v 0 (pv 0)) (da_cons (de_v 1 (pv 1)) da_nil)))) (nomark _))))))
    (dss_one ds_never)
    dss_nil))
    dss_nil)))), fun ds QD h => ?_⟩)
  · first
      | (obtain ⟨rfl, _⟩ := h; exact ⟨rfl, rfl⟩)
      | (obtain ⟨_, rfl, _⟩ := h; exact ⟨rfl, rfl⟩)
      | (obtain ⟨_, _, rfl, _⟩ := h; exact ⟨rfl, rfl⟩)
      | (obtain ⟨_, _, _, rfl, _⟩ := h; exact ⟨rfl, rfl⟩)
      | (obtain ⟨_, _, _, _, rfl, _⟩ := h; exact ⟨rfl, rfl⟩)
      | (obtain ⟨_, _, _, _, _, rfl, _⟩ := h; exact ⟨rfl, rfl⟩)
      | (obtain ⟨_, _, _, _, _, _, rfl, _⟩ := h; exact ⟨rfl, rfl⟩)
      | (obtain ⟨_, _, _, _, _, _, _, rfl, _⟩ := h; exact ⟨rfl, rfl⟩)
      | (obtain ⟨_, _, _, _, _, _, _, _, rfl, _⟩ := h; exact ⟨rfl, rfl⟩)
      | (obtain ⟨_, _, _, _, _, _, _, _, _, rfl, _⟩ := h; exact ⟨rfl, rfl⟩)
      | (obtain ⟨_, _, _, _, _, _, _, _, _, _, rfl, _⟩ := h; exact ⟨rfl, rfl⟩)
      | (obtain ⟨_, _, _, _, _, _, _, _, _, _, _, rfl, _⟩ := h; exact ⟨rfl, rfl⟩)
  · obtain ⟨t, ⟨s, rs, nv⟩, rfl, ok, q⟩ := h
    have hl := ok.len
    have ha : ascB (some (-1)) rs = true := (NM.ascB_iff rs (-1)).mpr ok.asc
    simp only at hl
    cases s with
    | none =>
      have hn : nv = none := by
        cases nv with
        | none => rfl
        | some v => obtain ⟨s0, h0, _⟩ := ok.nv v rfl; cases h0
      have hr : rs = [] := ok.no rfl
      subst hn
      subst hr
      cases t
      all_goals
        walk_at "au"
        refine ⟨_, [], rfl, ?_⟩
        walk_at "au"
        exact q
    | some s =>
      have h0 := ok.s0 s rfl
      cases nv with
      | none =>
        walk_at "au"
        · exfalso; omega
        · refine ⟨t, rs, rfl, ?_⟩
          simp only [ha]
          walk_at "au"
          exact q
      | some v =>
        obtain ⟨s0, e0, hc, hv⟩ := ok.nv v rfl
        cases e0
        have hop : NM.opnB rs = false := by
          cases e : NM.opnB rs with
          | false => rfl
          | true =>
            unfold NM.opnB at e
            split at e
            · rename_i lo hlo
              exact absurd (NM.opn_iff.mp hlo) (hc lo)
            · cases e
        walk_at "au"
        · exfalso; omega
        · refine ⟨t, rs, rfl, ?_⟩
          simp only [ha]
          walk_at "au"
          refine ⟨t, rs, rfl, hl, ?_⟩
          simp only [hop]
          walk_at "au"
          refine ⟨t, s, rs, rfl, hl, NM.closed_some ok.asc hc, ?_⟩
          walk_at "au"
          · exfalso
            simp only at hv
            omega
          · exact q
/-! ### _law_need -/
abbrev s__law_need : Stmt := topS 29
theorem sc__law_need : FnScope ["draws", "place", "kind", "start", "rises", "top", "edge", "k", "width", "never"] ["draws", "place"] (defScope s__law_need) := ⟨rfl, rfl, rfl, by decide +kernel, rfl, by decide +kernel, by decide +kernel⟩
def fs__law_need (cNeed : Addr) : FSp := fun ds Q => ∃ (rs : List Int) (k : Nat), ds = [.sh (.lst (pI rs)), .ol [.int (k : Int)]] ∧ (∀ d ∈ rs, 0 ≤ d ∧ d < 1000000) ∧ (∀ (n : Nd) (k' : Nat), NBd n → Q (.ol [oI n.s, .tup (pRs n.rs), oI n.nv]) [.sh (.lst (pI rs)), .ol [.int (k' : Int)]])
theorem ok__law_need {Pg : Program} {w : World} {K : PySem.W.Frag} {mg : Str → Option Value} {base : Heap} {a : Addr} {fd : FuncData} (F : L2.Fun K "_law_need" "_law_need" s__law_need a fd)
    (m_int : mg "int" = none)
    (m_range : mg "range" = none)
    (m_len : mg "len" = none)
    (m_tuple : mg "tuple" = none)
    {cNeed : Addr} (T : Txt K mg cNeed)
    {a__law_take : Addr} {d__law_take : FuncData} (C__law_take : Callee Pg w K mg base 1 "_law_take" a__law_take d__law_take ["draws", "place"] (fs__law_take cNeed)) :
    FnOk Pg w K mg base CX0 2 a fd ["draws", "place"] (spD K (fs__law_need cNeed)) := by
  have n_Need_start : ClsA K cNeed "start" := ⟨T.cl_Need, T.n_Need_start⟩
  have n_Need_rises : ClsA K cNeed "rises" := ⟨T.cl_Need, T.n_Need_rises⟩
  have n_Need_never : ClsA K cNeed "never" := ⟨T.cl_Need, T.n_Need_never⟩
  have n_Need__values : ClsA K cNeed "_values" := ⟨T.cl_Need, T.n_Need__values⟩
  have is_Need := T.is_Need
  refine Fun.okD [1] F sc__law_need (fun ds QD h => ?_) (fun cdv A outer s H E hr => ⟨_, _, (dss_cons (ds_asg (de_o (do_call (m := false) (fun h => pe_call C__law_take.ok hr (by rfl) C__law_take.g C__law_take.kp C__law_take.b .nil pass0 h) (da_cons (de_v 0 (pv 0)) (da_slot (pv 1) da_nil)))) (dg_name (pg_name (i := 2) sc__law_need.nd rfl (by first | exact .inl rfl | exact .inr rfl))))
    (dss_cons (ds_if (dt_cmp op_eq os_eq (de_op op_mod os_mod (de_cb (fun h => pe_callTy call_int1 (by rfl) m_int (by decide +kernel) h) cs_int (da_cons (de_v 2 (pv 2)) da_nil)) de_int) de_int (nomark _))
    (dss_one (ds_retO (do_lst (da_cons de_non (da_cons (de_tup da_nil) (da_cons de_non da_nil))))))
    dss_nil)
    (dss_cons (ds_asg (de_op op_mod os_mod (de_cb (fun h => pe_callTy call_int1 (by rfl) m_int (by decide +kernel) h) cs_int (da_cons (de_o (do_call (m := false) (fun h => pe_call C__law_take.ok hr (by rfl) C__law_take.g C__law_take.kp C__law_take.b .nil pass0 h) (da_cons (de_v 0 (pv 0)) (da_slot (pv 1) da_nil)))) da_nil)) de_int) (dg_name (pg_name (i := 3) sc__law_need.nd rfl (by first | exact .inl rfl | exact .inr rfl))))
    (dss_mid (ds_if (dt_cmp op_eq os_eq (de_op op_mod os_mod (de_cb (fun h => pe_callTy call_int1 (by rfl) m_int (by decide +kernel) h) cs_int (da_cons (de_op op_fdivW os_div (de_v 2 (pv 2)) de_int) da_nil)) de_int) de_int (nomark _))
    (dss_one (ds_asg (de_op op_add os_add (de_v 3 (pv 3)) (de_op op_pow os_pow de_int de_int)) (dg_name (pg_name (i := 3) sc__law_need.nd rfl (by first | exact .inl rfl | exact .inr rfl)))))
    dss_nil)
    (dss_cons (ds_put (do_lst da_nil) (pg_name (i := 4) sc__law_need.nd rfl (by first | exact .inl rfl | exact .inr rfl)))
    (dss_cons (ds_asg (de_v 3 (pv 3)) (dg_name (pg_name (i := 5) sc__law_need.nd rfl (by first | exact .inl rfl | exact .inr rfl))))
    (dss_cons (ds_asg (de_op op_mod os_mod (de_cb (fun h => pe_callTy call_int1 (by rfl) m_int (by decide +kernel) h) cs_int (da_cons (de_o (do_call (m := false) (fun h => pe_call C__law_take.ok hr (by rfl) C__law_take.g C__law_take.kp C__law_take.b .nil pass0 h) (da_cons (de_v 0 (pv 0)) (da_slot (pv 1) da_nil)))) da_nil)) de_int) (dg_name (pg_name (i := 6) sc__law_need.nd rfl (by first | exact .inl rfl | exact .inr rfl))))
    (dss_cons (ds_for PassesOwn.never rfl (di_rng1 (fun h => pi_range1 (by rfl) m_range h) (da_cons (de_op op_mod os_mod (de_cb (fun h => pe_callTy call_int1 (by rfl) m_int (by decide +kernel) h) cs_int (da_cons (de_o (do_call (m := false) (fun h => pe_call C__law_take.ok hr (by rfl) C__law_take.g C__law_take.kp C__law_take.b .nil pass0 h) (da_cons (de_v 0 (pv 0)) (da_slot (pv 1) da_nil)))) da_nil)) de_int) da_nil)) (dg_name (pg_name (i := 7) sc__law_need.nd rfl (by first | exact .inl rfl | exact .inr rfl)))
    (dss_cons (ds_asg (de_op op_add os_add de_int (de_op op_mod os_mod (de_cb (fun h => pe_callTy call_int1 (by rfl) m_int (by decide +kernel) h) cs_int (da_cons (de_o (do_call (m := false) (fun h => pe_call C__law_take.ok hr (by rfl) C__law_take.g C__law_take.kp C__law_take.b .nil pass0 h) (da_cons (de_v 0 (pv 0)) (da_slot (pv 1) da_nil)))) da_nil)) de_int)) (dg_name (pg_name (i := 8) sc__law_need.nd rfl (by first | exact .inl rfl | exact .inr rfl))))
    (dss_mid (ds_if (dt_cmp op_eq os_eq (de_op op_mod os_mod (de_cb (fun h => pe_callTy call_int1 (by rfl) m_int (by decide +kernel) h) cs_int (da_cons (de_op op_fdivW os_div (de_v 2 (pv 2)) de_int) da_nil)) de_int) de_int (nomark _))
    (dss_one (ds_asg (de_op op_mulW os_mul (de_v 8 (pv 8)) (de_op op_pow os_pow de_int de_int)) (dg_name (pg_name (i := 8) sc__law_need.nd rfl (by first | exact .inl rfl | exact .inr rfl)))))
    dss_nil)
    (dss_cons (ds_app (fun h => pe_bm PySem.F.plainAttrs_list PySem.F.slot_list_append PySem.F.type_list_append mt_append (pv 4) h) (de_tup (da_cons (de_v 6 (pv 6)) (da_cons (de_op op_add os_add (de_v 6 (pv 6)) (de_v 8 (pv 8))) da_nil))))
    (dss_cons (ds_asg (de_op op_add os_add (de_v 5 (pv 5)) (de_v 8 (pv 8))) (dg_name (pg_name (i := 5) sc__law_need.nd rfl (by first | exact .inl rfl | exact .inr rfl))))
    (dss_one (ds_asg (de_op op_add os_add (de_op op_add os_add (de_op op_add os_add (de_v 6 (pv 6)) (de_v 8 (pv 8))) de_int) (de_op op_mod os_mod (de_cb (fun h => pe_callTy call_int1 (by rfl) m_int (by decide +kernel) h) cs_int (da_cons (de_o (do_call (m := false) (fun h => pe_call C__law_take.ok hr (by rfl) C__law_take.g C__law_take.kp C__law_take.b .nil pass0 h) (da_cons (de_v 0 (pv 0)) (da_slot (pv 1) da_nil)))) da_nil)) de_int)) (dg_name (pg_name (i := 6) sc__law_need.nd rfl (by first | exact .inl rfl | exact .inr rfl))))))))))
    (dss_cons (ds_if (DW.pt (dw_and (dt_cmp op_gt os_gt (de_cb (fun h => pe_callB call_len (by rfl) m_len PySem.boot_len h) cs_len (da_cons (de_vF 4 (pv 4)) da_nil)) de_int (nomark _)) (dw_and1 (dt_cmp op_eq os_eq (de_op op_mod os_mod (de_cb (fun h => pe_callTy call_int1 (by rfl) m_int (by decide +kernel) h) cs_int (da_cons (de_op op_fdivW os_div (de_v 2 (pv 2)) de_int) da_nil)) de_int) de_int (nomark _)))))
    (dss_one (ds_retO (do_lst (da_cons (de_v 3 (pv 3)) (da_cons (de_cb (fun h => pe_callTy call_tuple_of (by rfl) m_tuple (by decide +kernel) h) cs_tuple (da_cons (de_o (do_op op_cat oo_cat (de_slS (de_vF 4 (pv 4)) dpo_none (dpo_some (de_un un_neg us_neg de_int))) (de_o (do_lst (da_cons (de_tup (da_cons (de_ix ix_seq os_ix (de_ix ix_seq os_ix (de_v 4 (pv 4)) (de_un un_neg us_neg de_int)) de_int) (da_cons de_non da_nil))) da_nil))))) da_nil)) (da_cons de_non da_nil))))))
    dss_nil)
    (dss_cons (ds_asg de_non (dg_name (pg_name (i := 9) sc__law_need.nd rfl (by first | exact .inl rfl | exact .inr rfl))))
    (dss_cons (ds_if (dt_cmp op_eq os_eq (de_op op_mod os_mod (de_cb (fun h => pe_callTy call_int1 (by rfl) m_int (by decide +kernel) h) cs_int (da_cons (de_op op_fdivW os_div (de_v 2 (pv 2)) de_int) da_nil)) de_int) de_int (nomark _))
    (dss_one (ds_asg (de_op op_add os_add (de_v 5 (pv 5)) (de_op op_mod os_mod (de_cb (fun h => pe_callTy call_int1 (by rfl) m_int (by decide +kernel) h) cs_int (da_cons (de_o (do_call (m := false) (fun h => pe_call C__law_take.ok hr (by rfl) C__law_take.g C__law_take.kp C__law_take.b .nil pass0 h) (da_cons (de_v 0 (pv 0)) (da_slot (pv 1) da_nil)))) da_nil)) de_int)) (dg_name (pg_name (i := 9) sc__law_need.nd rfl (by first | exact .inl rfl | exact .inr rfl)))))
    dss_nil)
    (dss_one (ds_retO (do_lst (da_cons (de_v 3 (pv 3)) (da_cons (de_cb (fun h => pe_callTy call_tuple_of (by rfl) m_tuple (by decide +kernel) h) cs_tuple (da_cons (de_vF 4 (pv 4)) da_nil)) (da_cons (de_v 9 (pv 9)) da_nil))))))))))))))))), fun ds QD h => ?_⟩)
  · first
      | (obtain ⟨rfl, _⟩ := h; exact ⟨rfl, rfl⟩)
      | (obtain ⟨_, rfl, _⟩ := h; exact ⟨rfl, rfl⟩)
      | (obtain ⟨_, _, rfl, _⟩ := h; exact ⟨rfl, rfl⟩)
      | (obtain ⟨_, _, _, rfl, _⟩ := h; exact ⟨rfl, rfl⟩)
      | (obtain ⟨_, _, _, _, rfl, _⟩ := h; exact ⟨rfl, rfl⟩)
      | (obtain ⟨_, _, _, _, _, rfl, _⟩ := h; exact ⟨rfl, rfl⟩)
      | (obtain ⟨_, _, _, _, _, _, rfl, _⟩ := h; exact ⟨rfl, rfl⟩)
      | (obtain ⟨_, _, _, _, _, _, _, rfl, _⟩ := h; exact ⟨rfl, rfl⟩)
      | (obtain ⟨_, _, _, _, _, _, _, _, rfl, _⟩ := h; exact ⟨rfl, rfl⟩)
      | (obtain ⟨_, _, _, _, _, _, _, _, _, rfl, _⟩ := h; exact ⟨rfl, rfl⟩)
      | (obtain ⟨_, _, _, _, _, _, _, _, _, _, rfl, _⟩ := h; exact ⟨rfl, rfl⟩)
      | (obtain ⟨_, _, _, _, _, _, _, _, _, _, _, rfl, _⟩ := h; exact ⟨rfl, rfl⟩)
  · obtain ⟨rs, k, rfl, hr, q⟩ := h
    walk_at "go"
    refine ⟨rs, k, rfl, ?_⟩
    have hk := getD_rg hr k
    revert hk
    generalize rs.getD k 0 = kd
    intro hk
    walk_at "au"
    · exact q ⟨none, [], none⟩ (k + 1) ⟨nok_none, (fun s h => by cases h), by show 0 ≤ 10; decide, (fun s h => by cases h), (fun v h => by cases h)⟩
    refine ⟨rs, k + 1, rfl, ?_⟩
    have hs := getD_rg hr (k + 1)
    revert hs
    generalize rs.getD (k + 1) 0 = sd
    intro hs
    walk_at "go"
    refine ⟨fun env => ∃ s : Int, env = [some (.sh (.lst (pI rs))), some (.ol [.int ((k + 1 + 1 : Nat) : Int)]), some (.sh (.int kd)), some (.sh (.int s)), none, none, none, none, none, none] ∧ 0 ≤ s ∧ s ≤ 10 ^ 30 + 10, ?_, ?_⟩
    · walk_at "au"
      · rw [p30]
        exact ⟨_, rfl, by omega, by omega⟩
      · exact ⟨_, rfl, by omega, by omega⟩
    rintro _ ⟨s, rfl, hs0, hs1⟩
    walk_at "go"
    refine ⟨rs, k + 2, rfl, ?_⟩
    have he := getD_rg hr (k + 2)
    revert he
    generalize rs.getD (k + 2) 0 = ed
    intro he
    walk_at "go"
    refine ⟨rs, k + 3, rfl, ?_⟩
    have hm := getD_rg hr (k + 3)
    revert hm
    generalize rs.getD (k + 3) 0 = md
    intro hm
    walk_at "go"
    refine ⟨fun i env => ∃ (ps : List Pr) (top edge : Int) (k' : Nat) (u1 u2 : Option D), env = [some (.sh (.lst (pI rs))), some (.ol [.int (k' : Int)]), some (.sh (.int kd)), some (.sh (.int s)), some (.ol (pRs ps)), some (.sh (.int top)), some (.sh (.int edge)), u1, u2, none] ∧ Gw i s ps top edge,
      ⟨[], s, ed % 6, _, none, none, rfl, trivial, fun p h => absurd h List.not_mem_nil, rfl, by simp [wsum], by simp [wsum], by omega, by omega⟩, fun i p e hp hI => ?_, fun e hI => ?_⟩
    · obtain ⟨ps, top, edge, k', u1, u2, rfl, g⟩ := hI
      obtain ⟨hi, rfl⟩ := rngP_get hp
      have hi' : i < 6 := by omega
      have hlen := g.len
      walk_at "go"
      refine ⟨rs, k', rfl, ?_⟩
      have hw := getD_rg hr k'
      revert hw
      generalize rs.getD k' 0 = wd
      intro hw
      walk_at "go"
      refine ⟨fun env => ∃ w : Int, env = [some (.sh (.lst (pI rs))), some (.ol [.int ((k' + 1 : Nat) : Int)]), some (.sh (.int kd)), some (.sh (.int s)), some (.ol (pRs ps)), some (.sh (.int top)), some (.sh (.int edge)), some (.sh (.int (0 + (i : Int)))), some (.sh (.int w)), none] ∧ 1 ≤ w ∧ w ≤ 600000000000000000000, ?_, ?_⟩
      · walk_at "au"
        · refine ⟨cmul_of 100 100 ⟨by omega, by omega⟩ (by decide +kernel), ?_⟩
          walk_at "go"
          rw [p20]
          exact ⟨_, rfl, by omega, by omega⟩
        · exact ⟨_, rfl, by omega, by omega⟩
      · rintro _ ⟨w, rfl, hw0, hw1⟩
        have el : (pRs ps).length = i := by rw [List.length_map, hlen]
        walk_at "go"
        refine ⟨rs, k' + 1, rfl, ?_⟩
        have hd := getD_rg hr (k' + 1)
        revert hd
        generalize rs.getD (k' + 1) 0 = dd
        intro hd
        walk_at "go"
        have e1 : pRs ps ++ [P.tup [P.int edge, P.int (edge + w)]] = pRs (ps ++ [(edge, some (edge + w))]) := by rw [pRs, pRs, List.map_append]; rfl
        have g2 := g.step (w := w) (d := 1 + dd % 6) hw0 hw1 (by omega) (by omega)
        rw [show edge + w + (1 + dd % 6) = edge + w + 1 + dd % 6 by omega] at g2
        exact ⟨ps ++ [(edge, some (edge + w))], top + w, edge + w + 1 + dd % 6, k' + 2, _, _, by rw [← e1]; rfl, g2⟩
    · obtain ⟨ps, top, edge, k', u1, u2, rfl, g⟩ := hI
      rw [rngP_len] at g
      have hlen := g.len
      have hl10 : ps.length ≤ 6 := by omega
      have el : (pRs ps).length = ps.length := List.length_map _
      have hcl : ∀ p ∈ ps, ∃ h, p.2 = some h := fun p hp => by obtain ⟨h, e, _⟩ := g.cl p hp; exact ⟨h, e⟩
      have hle : ∀ p ∈ ps, ∀ h, p.2 = some h → p.1 ≤ h := fun p hp h e => by obtain ⟨h', e', _, h5, _⟩ := g.cl p hp; rw [e] at e'; cases e'; exact h5
      have hM : ∀ p ∈ ps, p.1 ≤ 10 ^ 25 := fun p hp => by obtain ⟨h', e', h4, h5, _⟩ := g.cl p hp; have := g.e1; omega
      have hw0 := g.w
      have hwn := NM.wsum_nn hle
      have hb := NM.bndF_le (M := 10 ^ 25) (by decide) hs0 hM hle
      have hbd : bndF s ps + 1 ≤ 10 ^ 40 := by omega
      have htop := g.top
      rcases NM.snoc_cases ps with rfl | ⟨pre, ⟨lo, hi⟩, rfl⟩
      · walk_at "au"
        all_goals try (exfalso; simp at *; done)
        · refine ⟨rs, k', rfl, ?_⟩
          have hd := getD_rg hr k'
          revert hd
          generalize rs.getD k' 0 = dd
          intro hd
          walk_at "au"
          exact q ⟨some s, [], some (top + dd % 5)⟩ (k' + 1) ⟨⟨(fun v h => by cases h; exact hs0), trivial, (fun h => by cases h), (fun v h => by cases h; exact ⟨s, rfl, not_opn_nil, by show s + wsum [] ≤ _; rw [htop]; omega⟩), by show 0 ≤ 1000; decide⟩, (fun v h => by cases h; exact hbd), (by show 0 ≤ 10; decide), (fun v h => by cases h; show s ≤ 10 ^ 31; omega), (fun v h => by cases h; omega)⟩
        · exact q ⟨some s, [], none⟩ k' ⟨nok_rest (rs := []) trivial (by show 0 ≤ 1000; decide) hs0, (fun v h => by cases h; exact hbd), (by show 0 ≤ 10; decide), (fun v h => by cases h; show s ≤ 10 ^ 31; omega), (fun v h => by cases h)⟩
      · have ep : pRs (pre ++ [(lo, hi)]) = pRs pre ++ [prP (lo, hi)] := by rw [pRs, List.map_append]; rfl
        have nk := NOk.mk (n := ⟨some s, pre ++ [(lo, hi)], none⟩) (fun v h => by cases h; exact hs0) g.asc (fun h => by cases h) (fun v h => by cases h) (by show (pre ++ [(lo, hi)]).length ≤ 1000; omega)
        have hhi : ∃ h, hi = some h := hcl (lo, hi) (by simp)
        obtain ⟨hg, rfl⟩ := hhi
        have hwp : wsum pre ≤ wsum (pre ++ [(lo, some hg)]) := by
          rw [NM.wsum_snoc]
          have := hle (lo, some hg) (by simp) hg rfl
          simp only at this ⊢
          omega
        walk_at "au"
        · refine ⟨prP (lo, some hg), by rw [ep]; exact atI_last _ _, ?_⟩
          rw [ep, cut_init]
          have elp : (pRs pre).length = pre.length := List.length_map _
          have elq : pre.length ≤ 6 := by rw [List.length_append] at hl10; omega
          walk_at "au"
          have e2 : pRs pre ++ [P.tup [P.int lo, P.non]] = pRs (pre ++ [(lo, none)]) := by rw [pRs, pRs, List.map_append]; rfl
          have hM2 : ∀ p ∈ pre ++ [(lo, none)], p.1 ≤ (10 : Int) ^ 25 := fun p hp => by
            rcases List.mem_append.mp hp with hp | hp
            · exact hM p (by simp [hp])
            · rw [List.mem_singleton.mp hp]; exact hM (lo, some hg) (by simp)
          have hle2 : ∀ p ∈ pre ++ [(lo, (none : Option Int))], ∀ h, p.2 = some h → p.1 ≤ h := fun p hp => by
            rcases List.mem_append.mp hp with hp | hp
            · exact hle p (by simp [hp])
            · rw [List.mem_singleton.mp hp]; intro h e; cases e
          have hb2 := NM.bndF_le (M := 10 ^ 25) (by decide) hs0 hM2 hle2
          rw [NM.wsum_snoc] at hb2
          simp only at hb2
          have q2 := q ⟨some s, pre ++ [(lo, none)], none⟩ k' ⟨nok_rest g.asc.opened (by rw [List.length_append]; show pre.length + 1 ≤ 1000; omega) hs0, (fun v h => by cases h; show bndF s (pre ++ [(lo, none)]) + 1 ≤ 10 ^ 40; omega), (by show (pre ++ [(lo, none)]).length ≤ 10; rw [List.length_append]; show pre.length + 1 ≤ 10; omega), (fun v h => by cases h; show s ≤ 10 ^ 31; omega), (fun v h => by cases h)⟩
          simp only [← e2] at q2
          exact q2
        · refine ⟨rs, k', rfl, ?_⟩
          have hd := getD_rg hr k'
          revert hd
          generalize rs.getD k' 0 = dd
          intro hd
          walk_at "au"
          exact q ⟨some s, pre ++ [(lo, some hg)], some (top + dd % 5)⟩ (k' + 1) ⟨⟨(fun v h => by cases h; exact hs0), g.asc, (fun h => by cases h), (fun v h => by cases h; exact ⟨s, rfl, NM.not_opn hcl, by show s + wsum (pre ++ [(lo, some hg)]) ≤ _; omega⟩), nk.len⟩, (fun v h => by cases h; exact hbd), (by show (pre ++ [(lo, some hg)]).length ≤ 10; omega), (fun v h => by cases h; show s ≤ 10 ^ 31; omega), (fun v h => by cases h; omega)⟩
        · exact q ⟨some s, pre ++ [(lo, some hg)], none⟩ k' ⟨nk, (fun v h => by cases h; exact hbd), (by show (pre ++ [(lo, some hg)]).length ≤ 10; omega), (fun v h => by cases h; show s ≤ 10 ^ 31; omega), (fun v h => by cases h)⟩
        all_goals (exfalso; simp at *; omega)
/-! ### _law_values -/
abbrev s__law_values : Stmt := topS 34
theorem sc__law_values : FnScope ["need", "k", "many", "values", "turn"] ["need", "k", "many"] (defScope s__law_values) := ⟨rfl, rfl, rfl, by decide +kernel, rfl, by decide +kernel, by decide +kernel⟩
def fs__law_values (cNeed : Addr) : FSp := fun ds Q => ∃ (n : Nd) (k : Option Int) (m : Nat), ds = [.sh (needL n), .sh (oI k), .sh (.int (m : Int))] ∧ m ≤ 100 ∧ Q (.sh (.lst ((itL n k (m + 1)).map oI))) ds
theorem ok__law_values {Pg : Program} {w : World} {K : PySem.W.Frag} {mg : Str → Option Value} {base : Heap} {a : Addr} {fd : FuncData} (F : L2.Fun K "_law_values" "_law_values" s__law_values a fd)
    (m_range : mg "range" = none)
    {cNeed : Addr} (T : Txt K mg cNeed)
    {a__law_value : Addr} {d__law_value : FuncData} (C__law_value : Callee Pg w K mg base 1 "_law_value" a__law_value d__law_value ["need", "k"] (fs__law_value cNeed)) :
    FnOk Pg w K mg base CX0 2 a fd ["need", "k", "many"] (spD K (fs__law_values cNeed)) := by
  have n_Need_start : ClsA K cNeed "start" := ⟨T.cl_Need, T.n_Need_start⟩
  have n_Need_rises : ClsA K cNeed "rises" := ⟨T.cl_Need, T.n_Need_rises⟩
  have n_Need_never : ClsA K cNeed "never" := ⟨T.cl_Need, T.n_Need_never⟩
  have n_Need__values : ClsA K cNeed "_values" := ⟨T.cl_Need, T.n_Need__values⟩
  have is_Need := T.is_Need
  refine Fun.okD [] F sc__law_values (fun ds QD h => ?_) (fun cdv A outer s H E hr => ⟨_, _, (dss_cons (ds_put (do_lst (da_cons (de_v 1 (pv 1)) da_nil)) (pg_name (i := 3) sc__law_values.nd rfl (by first | exact .inl rfl | exact .inr rfl)))
    (dss_cons (ds_for PassesOwn.never rfl (di_rng1 (fun h => pi_range1 (by rfl) m_range h) (da_cons (de_v 2 (pv 2)) da_nil)) (dg_name (pg_name (i := 4) sc__law_values.nd rfl (by first | exact .inl rfl | exact .inr rfl)))
    (dss_one (ds_app (fun h => pe_bm PySem.F.plainAttrs_list PySem.F.slot_list_append PySem.F.type_list_append mt_append (pv 3) h) (de_o (do_callP (fun h => pe_call C__law_value.ok hr (by rfl) C__law_value.g C__law_value.kp C__law_value.b .nil pass0 h) (da_cons (de_v 0 (pv 0)) (da_cons (de_itm 3 (fun h => pe_ix ix_list (pv 3) h (fun _ _ => rfl)) (de_un un_neg us_neg de_int)) da_nil)))))))
    (dss_one (ds_ret (de_vF 3 (pv 3)))))), fun ds QD h => ?_⟩)
  · first
      | (obtain ⟨rfl, _⟩ := h; exact ⟨rfl, rfl⟩)
      | (obtain ⟨_, rfl, _⟩ := h; exact ⟨rfl, rfl⟩)
      | (obtain ⟨_, _, rfl, _⟩ := h; exact ⟨rfl, rfl⟩)
      | (obtain ⟨_, _, _, rfl, _⟩ := h; exact ⟨rfl, rfl⟩)
      | (obtain ⟨_, _, _, _, rfl, _⟩ := h; exact ⟨rfl, rfl⟩)
      | (obtain ⟨_, _, _, _, _, rfl, _⟩ := h; exact ⟨rfl, rfl⟩)
      | (obtain ⟨_, _, _, _, _, _, rfl, _⟩ := h; exact ⟨rfl, rfl⟩)
      | (obtain ⟨_, _, _, _, _, _, _, rfl, _⟩ := h; exact ⟨rfl, rfl⟩)
      | (obtain ⟨_, _, _, _, _, _, _, _, rfl, _⟩ := h; exact ⟨rfl, rfl⟩)
      | (obtain ⟨_, _, _, _, _, _, _, _, _, rfl, _⟩ := h; exact ⟨rfl, rfl⟩)
      | (obtain ⟨_, _, _, _, _, _, _, _, _, _, rfl, _⟩ := h; exact ⟨rfl, rfl⟩)
      | (obtain ⟨_, _, _, _, _, _, _, _, _, _, _, rfl, _⟩ := h; exact ⟨rfl, rfl⟩)
  · obtain ⟨n, k, m, rfl, hm, q⟩ := h
    walk_at "au"
    refine ⟨fun i env => ∃ tv, env = [some (.sh (needL n)), some (.sh (oI k)), some (.sh (.int (m : Int))), some (.ol ((itL n k (i + 1)).map oI)), tv], ⟨none, rfl⟩, fun i p e hp hI => ?_, fun e hI => ?_⟩
    · obtain ⟨tv, rfl⟩ := hI
      obtain ⟨hi, rfl⟩ := rngP_get hp
      have hi' : i < m := by have := hi; omega
      have el : ((itL n k (i + 1)).map oI).length = i + 1 := by rw [List.length_map, itL_len]
      walk_at "au"
      refine ⟨oI (RM.it (nval n) i k), atI_m1 (by rw [el]; show ((itL n k (i + 1)).map oI)[i]? = _; rw [List.getElem?_map, itL_get (Nat.lt_succ_self i)]; rfl), ?_⟩
      walk_at "au"
      refine ⟨n, _, rfl, ?_⟩
      walk_at "au"
      exact ⟨_, by rw [itL_succ n k (i + 1), List.map_append, RM.it_succ]; rfl⟩
    · obtain ⟨tv, rfl⟩ := hI
      rw [rngP_len]
      walk_at "au"
      exact q
/-! ### _law_count_right -/
abbrev s__law_count_right : Stmt := topS 35
theorem sc__law_count_right : FnScope ["told", "values", "purse", "above", "n", "affordable"] ["told", "values", "purse", "above"] (defScope s__law_count_right) := ⟨rfl, rfl, rfl, by decide +kernel, rfl, by decide +kernel, by decide +kernel⟩
def fs__law_count_right (cNeed : Addr) : FSp := fun ds Q => ∃ (t : Option Int) (xs : List (Option Int)) (p : Int) (ab : Bool), ds = [.sh (oI t), .sh (.lst (xs.map oI)), .sh (.int p), .sh (.bl ab)] ∧ xs.length ≤ 100 ∧ (∃ R : Nat → Prop, RM.Least R t ∧ ∀ (j : Nat) x, xs[j]? = some x → (R j ↔ affB p x ≠ ab)) ∧ Q (.sh (.bl true)) ds
theorem ok__law_count_right {Pg : Program} {w : World} {K : PySem.W.Frag} {mg : Str → Option Value} {base : Heap} {a : Addr} {fd : FuncData} (F : L2.Fun K "_law_count_right" "_law_count_right" s__law_count_right a fd)
    (m_range : mg "range" = none)
    (m_len : mg "len" = none)
    (m_isinstance : mg "isinstance" = none)
    (m_int : mg "int" = none)
    (m_bool : mg "bool" = none)
    {cNeed : Addr} (T : Txt K mg cNeed)
    {a__law_same : Addr} {d__law_same : FuncData} (C__law_same : Callee Pg w K mg base 1 "_law_same" a__law_same d__law_same ["told", "due"] (fs__law_same cNeed)) :
    FnOk Pg w K mg base CX0 2 a fd ["told", "values", "purse", "above"] (spD K (fs__law_count_right cNeed)) := by
  have n_Need_start : ClsA K cNeed "start" := ⟨T.cl_Need, T.n_Need_start⟩
  have n_Need_rises : ClsA K cNeed "rises" := ⟨T.cl_Need, T.n_Need_rises⟩
  have n_Need_never : ClsA K cNeed "never" := ⟨T.cl_Need, T.n_Need_never⟩
  have n_Need__values : ClsA K cNeed "_values" := ⟨T.cl_Need, T.n_Need__values⟩
  have is_Need := T.is_Need
  refine Fun.okD [] F sc__law_count_right (fun ds QD h => ?_) (fun cdv A outer s H E hr => ⟨_, _, (dss_cons (ds_for PassesOwn.never rfl (di_rng1 (fun h => pi_range1 (by rfl) m_range h) (da_cons (de_cb (fun h => pe_callB call_len (by rfl) m_len PySem.boot_len h) cs_len (da_cons (de_v 1 (pv 1)) da_nil)) da_nil)) (dg_name (pg_name (i := 4) sc__law_count_right.nd rfl (by first | exact .inl rfl | exact .inr rfl)))
    (dss_cons (ds_asg (de_and (de_cmp op_notN os_notN (de_ix ix_seq os_ix (de_v 1 (pv 1)) (de_v 4 (pv 4))) de_non (nomark _)) (de_one (de_cmp op_le os_le (de_ix ix_seq os_ix (de_v 1 (pv 1)) (de_v 4 (pv 4))) (de_v 2 (pv 2)) (nomark _)))) (dg_name (pg_name (i := 5) sc__law_count_right.nd rfl (by first | exact .inl rfl | exact .inr rfl))))
    (dss_one (ds_if (dt_cmp (op_neD hr.units) os_neD (de_v 5 (pv 5)) (de_v 3 (pv 3)) (nomark _))
    (dss_one (ds_ret (de_o (do_callP (fun h => pe_call C__law_same.ok hr (by rfl) C__law_same.g C__law_same.kp C__law_same.b .nil pass0 h) (da_cons (de_v 0 (pv 0)) (da_cons (de_v 4 (pv 4)) da_nil))))))
    dss_nil))))
    (dss_cons (ds_if (dt_cmp op_isN os_isN (de_v 0 (pv 0)) de_non (nomark _))
    (dss_one (ds_ret de_bl))
    dss_nil)
    (dss_one (ds_ret (de_and (de_cb (fun h => pe_callB call_isi (by rfl) m_isinstance (by decide +kernel) h) cs_isi (da_cons (de_v 0 (pv 0)) (da_cons (de_glob (p := .ty "int") (pe_bltn (v := .ty "int") (u := .type "int") (by rfl) m_int (by decide +kernel) rfl) (fun _ => rfl)) da_nil))) (de_and (de_not (de_cb (fun h => pe_callB call_isi (by rfl) m_isinstance (by decide +kernel) h) cs_isi (da_cons (de_v 0 (pv 0)) (da_cons (de_glob (p := .ty "bool") (pe_bltn (v := .ty "bool") (u := .type "bool") (by rfl) m_bool (by decide +kernel) rfl) (fun _ => rfl)) da_nil)))) (de_one (de_cmp op_ge os_ge (de_v 0 (pv 0)) (de_cb (fun h => pe_callB call_len (by rfl) m_len PySem.boot_len h) cs_len (da_cons (de_v 1 (pv 1)) da_nil)) (nomark _))))))))), fun ds QD h => ?_⟩)
  · first
      | (obtain ⟨rfl, _⟩ := h; exact ⟨rfl, rfl⟩)
      | (obtain ⟨_, rfl, _⟩ := h; exact ⟨rfl, rfl⟩)
      | (obtain ⟨_, _, rfl, _⟩ := h; exact ⟨rfl, rfl⟩)
      | (obtain ⟨_, _, _, rfl, _⟩ := h; exact ⟨rfl, rfl⟩)
      | (obtain ⟨_, _, _, _, rfl, _⟩ := h; exact ⟨rfl, rfl⟩)
      | (obtain ⟨_, _, _, _, _, rfl, _⟩ := h; exact ⟨rfl, rfl⟩)
      | (obtain ⟨_, _, _, _, _, _, rfl, _⟩ := h; exact ⟨rfl, rfl⟩)
      | (obtain ⟨_, _, _, _, _, _, _, rfl, _⟩ := h; exact ⟨rfl, rfl⟩)
      | (obtain ⟨_, _, _, _, _, _, _, _, rfl, _⟩ := h; exact ⟨rfl, rfl⟩)
      | (obtain ⟨_, _, _, _, _, _, _, _, _, rfl, _⟩ := h; exact ⟨rfl, rfl⟩)
      | (obtain ⟨_, _, _, _, _, _, _, _, _, _, rfl, _⟩ := h; exact ⟨rfl, rfl⟩)
      | (obtain ⟨_, _, _, _, _, _, _, _, _, _, _, rfl, _⟩ := h; exact ⟨rfl, rfl⟩)
  · obtain ⟨t, xs, p, ab, rfl, hl, ⟨R, hR, hx⟩, q⟩ := h
    have el : (xs.map oI).length = xs.length := List.length_map _
    walk_at "au"
    refine ⟨fun i env => ∃ nv av, env = [some (.sh (oI t)), some (.sh (.lst (xs.map oI))), some (.sh (.int p)), some (.sh (.bl ab)), nv, av] ∧ ∀ j, j < i → ¬ R j, ⟨none, none, rfl, fun j h => absurd h (Nat.not_lt_zero _)⟩, fun i p' e hp hI => ?_, fun e hI => ?_⟩
    · obtain ⟨nv, av, rfl, hn⟩ := hI
      obtain ⟨hi, rfl⟩ := rngP_get hp
      have hi' : i < xs.length := by have := hi; simp only [List.length_map] at this; omega
      obtain ⟨x, hxi⟩ : ∃ x, xs[i]? = some x := ⟨_, List.getElem?_eq_getElem hi'⟩
      have hxx := hx i x hxi
      have hax : atI (xs.map oI) (0 + (i : Int)) = some (oI x) := by rw [Int.zero_add]; exact atI_map' hxi
      have next : ¬ R i → ∀ j, j < i + 1 → ¬ R j := fun h j hj => by
        by_cases hji : j < i
        · exact hn j hji
        · rw [show j = i by omega]; exact h
      have done : R i → t = some (i : Int) := fun h => hR.uniq ⟨i, rfl, h, hn⟩
      walk_at "go"
      refine ⟨oI x, hax, ?_⟩
      cases x with
      | none =>
        walk_at "au"
        · rename_i hc
          have hR1 := hxx.mpr (eqv_ne (a := affB p none) hc)
          rw [done hR1]
          refine ⟨some (i : Int), by rw [Int.zero_add]; rfl, ?_⟩
          walk_at "au"
          rw [done hR1] at q
          exact q
        · rename_i hc
          exact ⟨_, _, rfl, next fun h => hxx.mp h (eqv_eq hc)⟩
      | some v =>
        walk_at "au"
        refine ⟨oI (some v), hax, ?_⟩
        walk_at "au"
        · rename_i hc
          have hR1 := hxx.mpr (eqv_ne (a := affB p (some v)) hc)
          rw [done hR1]
          refine ⟨some (i : Int), by rw [Int.zero_add]; rfl, ?_⟩
          walk_at "au"
          rw [done hR1] at q
          exact q
        · rename_i hc
          exact ⟨_, _, rfl, next fun h => hxx.mp h (eqv_eq (a := affB p (some v)) hc)⟩
    · obtain ⟨nv, av, rfl, hn⟩ := hI
      rw [rngP_len, show ((((xs.map oI).length : Nat) : Int)).toNat = xs.length by rw [el]; rfl] at hn
      cases t with
      | none =>
        walk_at "au"
        exact q
      | some t =>
        obtain ⟨m, rfl, hm, _⟩ := hR
        have hge : xs.length ≤ m := Nat.le_of_not_lt fun h => hn m h hm
        walk_at "au"
        refine ⟨true, by decide +kernel, ?_⟩
        walk_at "au"
        refine ⟨false, by decide +kernel, ?_⟩
        walk_at "au"
        rw [← show decide ((((xs.map oI).length : Nat) : Int) ≤ ((m : Nat) : Int)) = true from decide_eq_true (by rw [el]; omega)] at q
        exact q
/-! ### Need.__init__ -/
abbrev s_Need_m___init__ : Stmt := inClass (topS 24) 0
theorem sc_Need_m___init__ : FnScope ["self", "start", "rises", "never", "low", "high"] ["self", "start", "rises", "never"] (defScope s_Need_m___init__) := ⟨rfl, rfl, rfl, by decide +kernel, rfl, by decide +kernel, by decide +kernel⟩
def fs_Need_m___init__ (cNeed : Addr) : FSp := fun ds Q => ∃ (t : Bool) (n : Nd), ds = [.oi cNeed [], .sh (oI n.s), .sh (sq t (pRs n.rs)), .sh (oI n.nv)] ∧ NOk n ∧
  Q (.sh .non) [.oi cNeed [("start", oI n.s), ("rises", .tup (pRs n.rs)), ("never", oI n.nv), ("_values", .tup (valsP n.s n.rs))], .sh (oI n.s), .sh (sq t (pRs n.rs)), .sh (oI n.nv)]
theorem ok_Need_m___init__ {Pg : Program} {w : World} {K : PySem.W.Frag} {mg : Str → Option Value} {base : Heap} {a : Addr} {fd : FuncData} (F : L2.Fun K "__init__" "Need.__init__" s_Need_m___init__ a fd)
    (m_tuple : mg "tuple" = none)
    {cNeed : Addr} (T : Txt K mg cNeed)
    {a_check_need : Addr} {d_check_need : FuncData} (C_check_need : Callee Pg w K mg base 2 "check_need" a_check_need d_check_need ["start", "rises", "never"] (fs_check_need cNeed))
    {a_values_at_lows : Addr} {d_values_at_lows : FuncData} (C_values_at_lows : Callee Pg w K mg base 1 "values_at_lows" a_values_at_lows d_values_at_lows ["start", "rises"] (fs_values_at_lows cNeed)) :
    FnOk Pg w K mg base CX0 3 a fd ["self", "start", "rises", "never"] (spD K (fs_Need_m___init__ cNeed)) := by
  have n_Need_start : ClsA K cNeed "start" := ⟨T.cl_Need, T.n_Need_start⟩
  have n_Need_rises : ClsA K cNeed "rises" := ⟨T.cl_Need, T.n_Need_rises⟩
  have n_Need_never : ClsA K cNeed "never" := ⟨T.cl_Need, T.n_Need_never⟩
  have n_Need__values : ClsA K cNeed "_values" := ⟨T.cl_Need, T.n_Need__values⟩
  have is_Need := T.is_Need
  refine Fun.okD [0] F sc_Need_m___init__ (fun ds QD h => ?_) (fun cdv A outer s H E hr => ⟨_, _, (dss_cons (ds_drop (de_o (do_callP (fun h => pe_call C_check_need.ok hr (by rfl) C_check_need.g C_check_need.kp C_check_need.b .nil pass0 h) (da_cons (de_v 1 (pv 1)) (da_cons (de_v 2 (pv 2)) (da_cons (de_v 3 (pv 3)) da_nil))))))
    (dss_cons (ds_setN (pv 0) (de_v 1 (pv 1)))
    (dss_cons (ds_setN (pv 0) (de_cb (fun h => pe_callTy call_tuple_of (by rfl) m_tuple (by decide +kernel) h) cs_tuple (da_cons (de_o (do_lcP (own := [("low", 4), ("high", 5)]) (n := 6) rfl sc_Need_m___init__.nd (di_seq (de_v 2 (pv 2))) (blkOk_by (N := ["self", "start", "rises", "never", "low", "high"]) (sc := defScope s_Need_m___init__) (own := [("low", 4), ("high", 5)]) (by decide +kernel)) (fun _ _ _ _ _ => (dg_seq (fun h => pg_tup rfl h) (fun h => pg_unl rfl h) (dgs_cons (dg_name (pg_name (i := 4) sc_Need_m___init__.nd rfl (by first | exact .inl rfl | exact .inr rfl))) (dgs_cons (dg_name (pg_name (i := 5) sc_Need_m___init__.nd rfl (by first | exact .inl rfl | exact .inr rfl))) dgs_nil)))) (fun _ _ _ _ _ => dts_nil) (fun _ _ _ _ _ => (de_tup (da_cons (de_v 4 (pv 4)) (da_cons (de_v 5 (pv 5)) da_nil)))))) da_nil)))
    (dss_cons (ds_setN (pv 0) (de_v 3 (pv 3)))
    (dss_one (ds_setN (pv 0) (de_ifExp (dt_cmp op_isN os_isN (de_v 1 (pv 1)) de_non (nomark _)) (de_tup da_nil) (de_o (do_callP (fun h => pe_call C_values_at_lows.ok (hr.mono (by decide)) (by rfl) C_values_at_lows.g C_values_at_lows.kp C_values_at_lows.b .nil pass0 h) (da_cons (de_v 1 (pv 1)) (da_cons (de_fldO 0 (pv 0)) da_nil))))))))))), fun ds QD h => ?_⟩)
  · first
      | (obtain ⟨rfl, _⟩ := h; exact ⟨rfl, rfl⟩)
      | (obtain ⟨_, rfl, _⟩ := h; exact ⟨rfl, rfl⟩)
      | (obtain ⟨_, _, rfl, _⟩ := h; exact ⟨rfl, rfl⟩)
      | (obtain ⟨_, _, _, rfl, _⟩ := h; exact ⟨rfl, rfl⟩)
      | (obtain ⟨_, _, _, _, rfl, _⟩ := h; exact ⟨rfl, rfl⟩)
      | (obtain ⟨_, _, _, _, _, rfl, _⟩ := h; exact ⟨rfl, rfl⟩)
      | (obtain ⟨_, _, _, _, _, _, rfl, _⟩ := h; exact ⟨rfl, rfl⟩)
      | (obtain ⟨_, _, _, _, _, _, _, rfl, _⟩ := h; exact ⟨rfl, rfl⟩)
      | (obtain ⟨_, _, _, _, _, _, _, _, rfl, _⟩ := h; exact ⟨rfl, rfl⟩)
      | (obtain ⟨_, _, _, _, _, _, _, _, _, rfl, _⟩ := h; exact ⟨rfl, rfl⟩)
      | (obtain ⟨_, _, _, _, _, _, _, _, _, _, rfl, _⟩ := h; exact ⟨rfl, rfl⟩)
      | (obtain ⟨_, _, _, _, _, _, _, _, _, _, _, rfl, _⟩ := h; exact ⟨rfl, rfl⟩)
  · obtain ⟨t, ⟨s, rs, nv⟩, rfl, ok, q⟩ := h
    have hl := ok.len
    simp only at hl q
    walk_at "au"
    refine ⟨t, ⟨s, rs, nv⟩, rfl, ok, ?_⟩
    walk_at "au"
    rw [pseq_sq]
    walk_at "au"
    refine ⟨fun j acc => acc = pRs (rs.take j), rfl, fun j p acc hp hI => ?_, fun acc hI => ?_⟩
    · subst hI
      obtain ⟨⟨lo, hi⟩, hr, rfl⟩ := map_get hp
      have hj : j < rs.length := lt_of_get hr
      have el : (pRs (rs.take j)).length = j := by rw [List.length_map, List.length_take]; omega
      walk_at "au"
      show pRs (rs.take j) ++ [prP (lo, hi)] = pRs (rs.take (j + 1))
      rw [NM.take_snoc hr, pRs, pRs, List.map_append]; rfl
    · subst hI
      rw [show (rs.map prP).length = rs.length from List.length_map _, List.take_length]
      cases s with
      | none =>
        walk_at "au"
        exact q
      | some s =>
        walk_at "au"
        refine ⟨true, s, rs, rfl, hl, ?_⟩
        walk_at "au"
        exact q
/-! ### Need._value -/
abbrev s_Need_m__value : Stmt := inClass (topS 24) 1
theorem sc_Need_m__value : FnScope ["self", "k"] ["self", "k"] (defScope s_Need_m__value) := ⟨rfl, rfl, rfl, by decide +kernel, rfl, by decide +kernel, by decide +kernel⟩
def fs_Need_m__value (cNeed : Addr) : FSp := fun ds Q => ∃ (n : Nd) (k : Option Int), ds = [.sh (ndP cNeed n), .sh (oI k)] ∧ NOk n ∧ Q (.sh (oI (nval n k))) ds
theorem ok_Need_m__value {Pg : Program} {w : World} {K : PySem.W.Frag} {mg : Str → Option Value} {base : Heap} {a : Addr} {fd : FuncData} (F : L2.Fun K "_value" "Need._value" s_Need_m__value a fd)
    {cNeed : Addr} (T : Txt K mg cNeed)
    {a_value_at : Addr} {d_value_at : FuncData} (C_value_at : Callee Pg w K mg base 2 "value_at" a_value_at d_value_at ["start", "rises", "values", "k"] (fs_value_at cNeed)) :
    FnOk Pg w K mg base CX0 3 a fd ["self", "k"] (spD K (fs_Need_m__value cNeed)) := by
  have n_Need_start : ClsA K cNeed "start" := ⟨T.cl_Need, T.n_Need_start⟩
  have n_Need_rises : ClsA K cNeed "rises" := ⟨T.cl_Need, T.n_Need_rises⟩
  have n_Need_never : ClsA K cNeed "never" := ⟨T.cl_Need, T.n_Need_never⟩
  have n_Need__values : ClsA K cNeed "_values" := ⟨T.cl_Need, T.n_Need__values⟩
  have is_Need := T.is_Need
  refine Fun.okD [] F sc_Need_m__value (fun ds QD h => ?_) (fun cdv A outer s H E hr => ⟨_, _, (dss_cons (ds_if (DW.pt (dw_or (dt_cmp op_isN os_isN (de_v 1 (pv 1)) de_non (nomark _)) (dw_or1 (dt_cmp op_isN os_isN (de_fld (de_v 0 (pv 0))) de_non (nomark _)))))
    (dss_one (ds_ret (de_fld (de_v 0 (pv 0)))))
    dss_nil)
    (dss_one (ds_ret (de_o (do_callP (fun h => pe_call C_value_at.ok hr (by rfl) C_value_at.g C_value_at.kp C_value_at.b .nil pass0 h) (da_cons (de_fld (de_v 0 (pv 0))) (da_cons (de_fld (de_v 0 (pv 0))) (da_cons (de_fld (de_v 0 (pv 0))) (da_cons (de_v 1 (pv 1)) da_nil))))))))), fun ds QD h => ?_⟩)
  · first
      | (obtain ⟨rfl, _⟩ := h; exact ⟨rfl, rfl⟩)
      | (obtain ⟨_, rfl, _⟩ := h; exact ⟨rfl, rfl⟩)
      | (obtain ⟨_, _, rfl, _⟩ := h; exact ⟨rfl, rfl⟩)
      | (obtain ⟨_, _, _, rfl, _⟩ := h; exact ⟨rfl, rfl⟩)
      | (obtain ⟨_, _, _, _, rfl, _⟩ := h; exact ⟨rfl, rfl⟩)
      | (obtain ⟨_, _, _, _, _, rfl, _⟩ := h; exact ⟨rfl, rfl⟩)
      | (obtain ⟨_, _, _, _, _, _, rfl, _⟩ := h; exact ⟨rfl, rfl⟩)
      | (obtain ⟨_, _, _, _, _, _, _, rfl, _⟩ := h; exact ⟨rfl, rfl⟩)
      | (obtain ⟨_, _, _, _, _, _, _, _, rfl, _⟩ := h; exact ⟨rfl, rfl⟩)
      | (obtain ⟨_, _, _, _, _, _, _, _, _, rfl, _⟩ := h; exact ⟨rfl, rfl⟩)
      | (obtain ⟨_, _, _, _, _, _, _, _, _, _, rfl, _⟩ := h; exact ⟨rfl, rfl⟩)
      | (obtain ⟨_, _, _, _, _, _, _, _, _, _, _, rfl, _⟩ := h; exact ⟨rfl, rfl⟩)
  · obtain ⟨⟨s, rs, nv⟩, k, rfl, ok, q⟩ := h
    have hl := ok.len
    have ha := ok.asc
    simp only at hl ha
    cases k with
    | none =>
      have e : nval ⟨s, rs, nv⟩ none = nv := by unfold nval; cases s <;> rfl
      rw [e] at q
      walk_at "au"
      exact q
    | some k =>
      cases s with
      | none =>
        walk_at "au"
        exact q
      | some s =>
        walk_at "au"
        refine ⟨s, rs, k, rfl, ha, hl, ?_⟩
        walk_at "au"
        exact q
/-! ### Need._stride -/
abbrev s_Need_m__stride : Stmt := inClass (topS 24) 16
theorem sc_Need_m__stride : FnScope ["self", "k", "at", "change", "low", "high"] ["self", "k"] (defScope s_Need_m__stride) := ⟨rfl, rfl, rfl, by decide +kernel, rfl, by decide +kernel, by decide +kernel⟩
def fs_Need_m__stride (cNeed : Addr) : FSp := fun ds Q => ∃ (n : Nd) (s k : Int), ds = [.sh (ndP cNeed n), .sh (.int k)] ∧ n.s = some s ∧ NOk n ∧ s < 2 ^ 390 ∧ 0 ≤ k ∧ k < 2 ^ 600 ∧ (∀ m, StrO n k (val s n.rs k - k) m → Q (.sh (.tup [.int (val s n.rs k - k), oI m])) ds)
theorem ok_Need_m__stride {Pg : Program} {w : World} {K : PySem.W.Frag} {mg : Str → Option Value} {base : Heap} {a : Addr} {fd : FuncData} (F : L2.Fun K "_stride" "Need._stride" s_Need_m__stride a fd)
    {cNeed : Addr} (T : Txt K mg cNeed)
    {a_pair_at : Addr} {d_pair_at : FuncData} (C_pair_at : Callee Pg w K mg base 1 "pair_at" a_pair_at d_pair_at ["rises", "k"] (fs_pair_at cNeed))
    {a_Need_m__value : Addr} {d_Need_m__value : FuncData} (C_Need_m__value : CalleeM Pg w K mg base 3 cNeed "_value" a_Need_m__value d_Need_m__value ["self", "k"] (fs_Need_m__value cNeed)) :
    FnOk Pg w K mg base CX0 4 a fd ["self", "k"] (spD K (fs_Need_m__stride cNeed)) := by
  have n_Need_start : ClsA K cNeed "start" := ⟨T.cl_Need, T.n_Need_start⟩
  have n_Need_rises : ClsA K cNeed "rises" := ⟨T.cl_Need, T.n_Need_rises⟩
  have n_Need_never : ClsA K cNeed "never" := ⟨T.cl_Need, T.n_Need_never⟩
  have n_Need__values : ClsA K cNeed "_values" := ⟨T.cl_Need, T.n_Need__values⟩
  have is_Need := T.is_Need
  refine Fun.okD [] F sc_Need_m__stride (fun ds QD h => ?_) (fun cdv A outer s H E hr => ⟨_, _, (dss_cons (ds_asg (de_o (do_callP (fun h => pe_call C_pair_at.ok (hr.mono (by decide)) (by rfl) C_pair_at.g C_pair_at.kp C_pair_at.b .nil pass0 h) (da_cons (de_fld (de_v 0 (pv 0))) (da_cons (de_v 1 (pv 1)) da_nil)))) (dg_name (pg_name (i := 2) sc_Need_m__stride.nd rfl (by first | exact .inl rfl | exact .inr rfl))))
    (dss_cons (ds_asg (de_op op_sub os_sub (de_meth (fun ho h => pe_meth ho C_Need_m__value.c C_Need_m__value.m C_Need_m__value.ok hr C_Need_m__value.b .nil pass0 h) (de_v 0 (pv 0)) (da_cons (de_v 1 (pv 1)) da_nil)) (de_v 1 (pv 1))) (dg_name (pg_name (i := 3) sc_Need_m__stride.nd rfl (by first | exact .inl rfl | exact .inr rfl))))
    (dss_cons (ds_if (dt_cmp op_eq os_eq (de_v 3 (pv 3)) de_int (nomark _))
    (dss_one (ds_ret (de_tup (da_cons de_int (da_cons de_non da_nil)))))
    dss_nil)
    (dss_cons (ds_if (DW.pt (dw_or (dt_cmp op_lt os_lt (de_v 2 (pv 2)) de_int (nomark _)) (dw_or1 (DW.pt (dw_and (dt_cmp op_notN os_notN (de_ix ix_seq os_ix (de_ix ix_seq os_ix (de_fld (de_v 0 (pv 0))) (de_v 2 (pv 2))) de_int) de_non (nomark _)) (dw_and1 (dt_cmp op_gt os_gt (de_v 1 (pv 1)) (de_ix ix_seq os_ix (de_ix ix_seq os_ix (de_fld (de_v 0 (pv 0))) (de_v 2 (pv 2))) de_int) (nomark _))))))))
    (dss_one (ds_ret (de_tup (da_cons (de_v 3 (pv 3)) (da_cons de_int da_nil)))))
    dss_nil)
    (dss_cons (ds_asg (de_ix ix_seq os_ix (de_fld (de_v 0 (pv 0))) (de_v 2 (pv 2))) (dg_seq (fun h => pg_tup rfl h) (fun h => pg_unl rfl h) (dgs_cons (dg_name (pg_name (i := 4) sc_Need_m__stride.nd rfl (by first | exact .inl rfl | exact .inr rfl))) (dgs_cons (dg_name (pg_name (i := 5) sc_Need_m__stride.nd rfl (by first | exact .inl rfl | exact .inr rfl))) dgs_nil))))
    (dss_cons (ds_if (dt_cmp op_lt os_lt (de_v 3 (pv 3)) de_int (nomark _))
    (dss_one (ds_ret (de_tup (da_cons (de_v 3 (pv 3)) (da_cons (de_op op_add os_add (de_op op_fdivW os_div (de_op op_sub os_sub (de_v 1 (pv 1)) (de_v 4 (pv 4))) (de_un un_neg us_neg (de_v 3 (pv 3)))) de_int) da_nil)))))
    dss_nil)
    (dss_one (ds_ret (de_tup (da_cons (de_v 3 (pv 3)) (da_cons (de_ifExp (dt_cmp op_isN os_isN (de_v 5 (pv 5)) de_non (nomark _)) de_non (de_op op_add os_add (de_op op_fdivW os_div (de_op op_sub os_sub (de_v 5 (pv 5)) (de_v 1 (pv 1))) (de_v 3 (pv 3))) de_int)) da_nil))))))))))), fun ds QD h => ?_⟩)
  · first
      | (obtain ⟨rfl, _⟩ := h; exact ⟨rfl, rfl⟩)
      | (obtain ⟨_, rfl, _⟩ := h; exact ⟨rfl, rfl⟩)
      | (obtain ⟨_, _, rfl, _⟩ := h; exact ⟨rfl, rfl⟩)
      | (obtain ⟨_, _, _, rfl, _⟩ := h; exact ⟨rfl, rfl⟩)
      | (obtain ⟨_, _, _, _, rfl, _⟩ := h; exact ⟨rfl, rfl⟩)
      | (obtain ⟨_, _, _, _, _, rfl, _⟩ := h; exact ⟨rfl, rfl⟩)
      | (obtain ⟨_, _, _, _, _, _, rfl, _⟩ := h; exact ⟨rfl, rfl⟩)
      | (obtain ⟨_, _, _, _, _, _, _, rfl, _⟩ := h; exact ⟨rfl, rfl⟩)
      | (obtain ⟨_, _, _, _, _, _, _, _, rfl, _⟩ := h; exact ⟨rfl, rfl⟩)
      | (obtain ⟨_, _, _, _, _, _, _, _, _, rfl, _⟩ := h; exact ⟨rfl, rfl⟩)
      | (obtain ⟨_, _, _, _, _, _, _, _, _, _, rfl, _⟩ := h; exact ⟨rfl, rfl⟩)
      | (obtain ⟨_, _, _, _, _, _, _, _, _, _, _, rfl, _⟩ := h; exact ⟨rfl, rfl⟩)
  · obtain ⟨⟨s', rs, nv⟩, s, k, rfl, hs, ok, hz, hk, hk2, q⟩ := h
    have hl := ok.len
    have ha := ok.asc
    have hs0 := ok.s0 s hs
    have ef := nval_fn ⟨s', rs, nv⟩
    simp only at hs hl ha q ef
    subst hs
    have hv0 := NM.val_nn (k := k) ha hs0
    have hvu := val_up (s := s) ha hk
    have one : RM.Str (RM.fn (some s) rs nv) k (val s rs k - k) 1 := RM.str_one (by show some _ = some _; congr 1; omega)
    walk_at "au"
    refine ⟨true, rs, k, rfl, ha, hl, fun n hn h1 h2 => ?_⟩
    walk_at "au"
    refine ⟨⟨some s, rs, nv⟩, some k, rfl, ok, ?_⟩
    have q0 := fun (h : val s rs k - k = 0) => q none ⟨(fun M h => by cases h), fun j _ => by rw [ef]; show RM.Str _ _ (val s rs k - k) _; rw [h]; exact RM.str_zero (by show some _ = some _; congr 1; omega) j⟩
    have q1 := q (some 1) ⟨(fun M h => by cases h; exact Int.le_refl _), fun j hj => by rw [ef]; exact one.mono (by have := hj 1 rfl; omega)⟩
    cases n with
    | zero =>
      walk_at "ax"
      · rename_i hc
        have q0 := q0 hc
        rw [hc] at q0
        exact q0
      · exact q1
    | succ n =>
      obtain ⟨⟨lo, hi⟩, hp⟩ : ∃ p, rs[n]? = some p := ⟨_, List.getElem?_eq_getElem (by omega)⟩
      have h3 := h1 n _ hp (by omega)
      have en : ((n + 1 : Nat) : Int) - 1 = (n : Int) := by omega
      simp only [en]
      simp only at h3
      walk_at "ax"
      · rename_i hc
        have q0 := q0 hc
        rw [hc] at q0
        exact q0
      refine ⟨_, atI_map' hp, ?_⟩
      cases hi with
      | none =>
        walk_at "ax"
        refine ⟨_, atI_map' hp, ?_⟩
        walk_at "ax"
        · refine ⟨lt600 (show -(val s rs k - k) < 2 ^ 600 by omega) (show 0 < -(val s rs k - k) by omega), ?_⟩
          walk_at "ax"
          exact q (some _) ⟨(fun M h => by cases h; show (1 : Int) ≤ (k - lo) / -(val s rs k - k) + 1; have := RM.div_nn (show 0 ≤ k - lo by omega) (show 0 < -(val s rs k - k) by omega); omega), fun j hj => by rw [ef]; exact RM.str_down ha hp h3 (fun h e => by cases e) (by assumption) (hj _ rfl)⟩
        · exact q none ⟨(fun M h => by cases h), fun j hj => by rw [ef]; exact RM.str_up ha hp h3 (fun h e => by cases e) (by omega) (fun h e => by cases e)⟩
      | some g =>
        walk_at "ax"
        refine ⟨_, atI_map' hp, ?_⟩
        walk_at "ax"
        · exact q1
        refine ⟨_, atI_map' hp, ?_⟩
        walk_at "ax"
        · refine ⟨lt600 (show -(val s rs k - k) < 2 ^ 600 by omega) (show 0 < -(val s rs k - k) by omega), ?_⟩
          walk_at "ax"
          exact q (some _) ⟨(fun M h => by cases h; show (1 : Int) ≤ (k - lo) / -(val s rs k - k) + 1; have := RM.div_nn (show 0 ≤ k - lo by omega) (show 0 < -(val s rs k - k) by omega); omega), fun j hj => by rw [ef]; exact RM.str_down ha hp h3 (fun h e => by cases e; omega) (by assumption) (hj _ rfl)⟩
        · refine ⟨lt600 (show val s rs k - k < 2 ^ 600 by omega) (show 0 < val s rs k - k by omega), ?_⟩
          walk_at "ax"
          exact q (some _) ⟨(fun M h => by cases h; show (1 : Int) ≤ (g - k) / (val s rs k - k) + 1; have := RM.div_nn (show 0 ≤ g - k by omega) (show 0 < val s rs k - k by omega); omega), fun j hj => by rw [ef]; exact RM.str_up ha hp h3 (fun h e => by cases e; omega) (by omega) (fun h e => by cases e; exact hj _ rfl)⟩
/-! ### Need._after -/
abbrev s_Need_m__after : Stmt := inClass (topS 24) 19
theorem sc_Need_m__after : FnScope ["self", "k", "limit", "left", "change", "many", "leap"] ["self", "k", "limit"] (defScope s_Need_m__after) := ⟨rfl, rfl, rfl, by decide +kernel, rfl, by decide +kernel, by decide +kernel⟩
def fs_Need_m__after (cNeed : Addr) : FSp := fun ds Q => ∃ (n : Nd) (k : Option Int) (L : Int), ds = [.sh (ndP cNeed n), .sh (oI k), .sh (.int L)] ∧ NOk n ∧ Sz n ∧ KIn k ∧ 0 ≤ L ∧ L < 2 ^ 200 ∧ Q (.sh (oI (RM.it (nval n) L.toNat k))) ds
theorem ok_Need_m__after {Pg : Program} {w : World} {K : PySem.W.Frag} {mg : Str → Option Value} {base : Heap} {a : Addr} {fd : FuncData} (F : L2.Fun K "_after" "Need._after" s_Need_m__after a fd)
    {cNeed : Addr} (T : Txt K mg cNeed)
    {a_Need_m__stride : Addr} {d_Need_m__stride : FuncData} (C_Need_m__stride : CalleeM Pg w K mg base 4 cNeed "_stride" a_Need_m__stride d_Need_m__stride ["self", "k"] (fs_Need_m__stride cNeed))
    {a_sooner : Addr} {d_sooner : FuncData} (C_sooner : Callee Pg w K mg base 1 "sooner" a_sooner d_sooner ["one", "other"] (fs_sooner cNeed)) :
    FnOk Pg w K mg base CX0 5 a fd ["self", "k", "limit"] (spD K (fs_Need_m__after cNeed)) := by
  have n_Need_start : ClsA K cNeed "start" := ⟨T.cl_Need, T.n_Need_start⟩
  have n_Need_rises : ClsA K cNeed "rises" := ⟨T.cl_Need, T.n_Need_rises⟩
  have n_Need_never : ClsA K cNeed "never" := ⟨T.cl_Need, T.n_Need_never⟩
  have n_Need__values : ClsA K cNeed "_values" := ⟨T.cl_Need, T.n_Need__values⟩
  have is_Need := T.is_Need
  refine Fun.okD [] F sc_Need_m__after (fun ds QD h => ?_) (fun cdv A outer s H E hr => ⟨_, _, (dss_cons (ds_asg (de_v 2 (pv 2)) (dg_name (pg_name (i := 3) sc_Need_m__after.nd rfl (by first | exact .inl rfl | exact .inr rfl))))
    (dss_mid (ds_if (DW.pt (dw_and (dt_cmp op_gt os_gt (de_v 3 (pv 3)) de_int (nomark _)) (dw_and1 (DW.pt (dw_or (dt_cmp op_isN os_isN (de_v 1 (pv 1)) de_non (nomark _)) (dw_or1 (dt_cmp op_isN os_isN (de_fld (de_v 0 (pv 0))) de_non (nomark _))))))))
    (dss_cons (ds_asg (de_fld (de_v 0 (pv 0))) (dg_name (pg_name (i := 1) sc_Need_m__after.nd rfl (by first | exact .inl rfl | exact .inr rfl))))
    (dss_one (ds_asg (de_op op_sub os_sub (de_v 3 (pv 3)) de_int) (dg_name (pg_name (i := 3) sc_Need_m__after.nd rfl (by first | exact .inl rfl | exact .inr rfl))))))
    dss_nil)
    (dss_cons (ds_while PassesOwn.never (DW.pt (dw_and (dt_cmp op_gt os_gt (de_v 3 (pv 3)) de_int (nomark _)) (dw_and1 (dt_cmp op_notN os_notN (de_v 1 (pv 1)) de_non (nomark _)))))
    (dss_cons (ds_asg (de_meth (fun ho h => pe_meth ho C_Need_m__stride.c C_Need_m__stride.m C_Need_m__stride.ok hr C_Need_m__stride.b .nil pass0 h) (de_v 0 (pv 0)) (da_cons (de_v 1 (pv 1)) da_nil)) (dg_seq (fun h => pg_tup rfl h) (fun h => pg_unl rfl h) (dgs_cons (dg_name (pg_name (i := 4) sc_Need_m__after.nd rfl (by first | exact .inl rfl | exact .inr rfl))) (dgs_cons (dg_name (pg_name (i := 5) sc_Need_m__after.nd rfl (by first | exact .inl rfl | exact .inr rfl))) dgs_nil))))
    (dss_cons (ds_asg (de_o (do_callP (fun h => pe_call C_sooner.ok (hr.mono (by decide)) (by rfl) C_sooner.g C_sooner.kp C_sooner.b .nil pass0 h) (da_cons (de_v 3 (pv 3)) (da_cons (de_v 5 (pv 5)) da_nil)))) (dg_name (pg_name (i := 6) sc_Need_m__after.nd rfl (by first | exact .inl rfl | exact .inr rfl))))
    (dss_cons (ds_asg (de_op op_add os_add (de_v 1 (pv 1)) (de_op op_mulW os_mul (de_v 6 (pv 6)) (de_v 4 (pv 4)))) (dg_name (pg_name (i := 1) sc_Need_m__after.nd rfl (by first | exact .inl rfl | exact .inr rfl))))
    (dss_one (ds_asg (de_op op_sub os_sub (de_v 3 (pv 3)) (de_v 6 (pv 6))) (dg_name (pg_name (i := 3) sc_Need_m__after.nd rfl (by first | exact .inl rfl | exact .inr rfl)))))))))
    (dss_one (ds_ret (de_v 1 (pv 1))))))), fun ds QD h => ?_⟩)
  · first
      | (obtain ⟨rfl, _⟩ := h; exact ⟨rfl, rfl⟩)
      | (obtain ⟨_, rfl, _⟩ := h; exact ⟨rfl, rfl⟩)
      | (obtain ⟨_, _, rfl, _⟩ := h; exact ⟨rfl, rfl⟩)
      | (obtain ⟨_, _, _, rfl, _⟩ := h; exact ⟨rfl, rfl⟩)
      | (obtain ⟨_, _, _, _, rfl, _⟩ := h; exact ⟨rfl, rfl⟩)
      | (obtain ⟨_, _, _, _, _, rfl, _⟩ := h; exact ⟨rfl, rfl⟩)
      | (obtain ⟨_, _, _, _, _, _, rfl, _⟩ := h; exact ⟨rfl, rfl⟩)
      | (obtain ⟨_, _, _, _, _, _, _, rfl, _⟩ := h; exact ⟨rfl, rfl⟩)
      | (obtain ⟨_, _, _, _, _, _, _, _, rfl, _⟩ := h; exact ⟨rfl, rfl⟩)
      | (obtain ⟨_, _, _, _, _, _, _, _, _, rfl, _⟩ := h; exact ⟨rfl, rfl⟩)
      | (obtain ⟨_, _, _, _, _, _, _, _, _, _, rfl, _⟩ := h; exact ⟨rfl, rfl⟩)
      | (obtain ⟨_, _, _, _, _, _, _, _, _, _, _, rfl, _⟩ := h; exact ⟨rfl, rfl⟩)
  · obtain ⟨⟨s, rs, nv⟩, k, L, rfl, ok, sz, hk, hL, hL2, q⟩ := h
    have hv : ∀ v, nv = some v → 0 ≤ v ∧ v < 2 ^ 390 := fun v e => ⟨nv_nn ok e, sz.nv v e⟩
    cases s with
    | none =>
      have hn := ok.nvn rfl
      simp only at hn
      subst hn
      walk_at "go"
      refine ⟨fun env => ∃ (k1 : Option Int) (l : Int), env = [some (.sh (ndP cNeed ⟨none, rs, none⟩)), some (.sh (oI k1)), some (.sh (.int L)), some (.sh (.int l)), none, none, none] ∧ (l = 0 ∨ k1 = none) ∧ k1 = RM.it (nval ⟨none, rs, none⟩) L.toNat k, ?_, ?_⟩
      · by_cases hz : L = 0
        · subst hz
          walk_at "ax"
          exact ⟨k, 0, rfl, .inl rfl, rfl⟩
        · obtain ⟨j, hj⟩ : ∃ j, L.toNat = j + 1 := ⟨L.toNat - 1, by omega⟩
          have e := it_sn (n := ⟨none, rs, none⟩) rfl rfl k j
          rw [← hj] at e
          rw [e]
          cases k with
          | none => walk_at "ax"; exact ⟨none, _, rfl, .inr rfl, rfl⟩
          | some k => walk_at "ax"; exact ⟨none, _, rfl, .inr rfl, rfl⟩
      rintro _ ⟨k1, l, rfl, h1, h2⟩
      subst h2
      walk_at "ax"
      refine ⟨fun m e => e = [some (.sh (ndP cNeed ⟨none, rs, none⟩)), some (.sh (oI (RM.it (nval ⟨none, rs, none⟩) L.toNat k))), some (.sh (.int L)), some (.sh (.int l)), none, none, none], ⟨0, rfl⟩, fun m e hI => ?_⟩
      subst hI
      rcases h1 with h1 | h1
      · subst h1
        walk_at "ax"
        exact q
      · rw [h1] at q ⊢
        walk_at "ax"
        all_goals exact q
    | some s =>
      have hs0 := ok.s0 s rfl
      have hsz : s < 2 ^ 390 := sz.s s rfl
      walk_at "go"
      refine ⟨fun env => ∃ (k1 : Option Int) (l : Int), env = [some (.sh (ndP cNeed ⟨some s, rs, nv⟩)), some (.sh (oI k1)), some (.sh (.int L)), some (.sh (.int l)), none, none, none] ∧ 0 ≤ l ∧ l ≤ L ∧ RM.it (nval ⟨some s, rs, nv⟩) l.toNat k1 = RM.it (nval ⟨some s, rs, nv⟩) L.toNat k ∧ KIn k1 ∧ (k1 = none → l = 0 ∨ nv = none), ?_, ?_⟩
      · cases k with
        | none =>
          walk_at "ax"
          · refine ⟨nv, L - 1, rfl, by omega, by omega, ?_, fun v e => by have := hv v e; omega, .inr⟩
            rw [show L.toNat = (L - 1).toNat + 1 by omega]
            show _ = RM.it _ _ (nval ⟨some s, rs, nv⟩ none)
            rfl
          · exact ⟨none, L, rfl, by omega, by omega, rfl, hk, fun _ => .inl (by omega)⟩
        | some k =>
          walk_at "ax"
          all_goals exact ⟨some k, L, rfl, by omega, by omega, rfl, hk, fun e => by cases e⟩
      rintro _ ⟨k1, l, rfl, h1, h2, h3, hk1, h4⟩
      rw [← h3] at q
      walk_at "ax"
      cases k1 with
      | none =>
        have e : RM.it (nval ⟨some s, rs, nv⟩) l.toNat none = none := by
          rcases h4 rfl with h4 | h4
          · subst h4; rfl
          · exact it_none h4 _
        rw [e] at q
        refine ⟨fun m e => e = [some (.sh (ndP cNeed ⟨some s, rs, nv⟩)), some (.sh .non), some (.sh (.int L)), some (.sh (.int l)), none, none, none], ⟨0, rfl⟩, fun m e hI => ?_⟩
        subst hI
        walk_at "ax"
        all_goals exact q
      | some k1 =>
        have hk0 := hk1 k1 rfl
        have hb := RM.mul_mono (c := s) h2 hs0
        have hb2 : L * s ≤ 2 ^ 200 * 2 ^ 390 := Int.le_trans (RM.mul_mono (show L ≤ 2 ^ 200 by omega) hs0) (Int.mul_le_mul_of_nonneg_left (show s ≤ 2 ^ 390 by omega) (by decide))
        rw [show (2 : Int) ^ 200 * 2 ^ 390 = 2 ^ 590 by decide +kernel] at hb2
        generalize hr : RM.it (nval ⟨some s, rs, nv⟩) l.toNat (some k1) = r at q
        have hkb : k1 + l * s < 2 ^ 591 := by omega
        have hkn := hk0.1
        clear hk0 hk1 h3 h4 hb
        refine ⟨fun m e => ∃ (k1 l : Int) (u1 u2 u3 : Option D), e = [some (.sh (ndP cNeed ⟨some s, rs, nv⟩)), some (.sh (.int k1)), some (.sh (.int L)), some (.sh (.int l)), u1, u2, u3] ∧ 0 ≤ l ∧ l ≤ L ∧ RM.it (nval ⟨some s, rs, nv⟩) l.toNat (some k1) = r ∧ 0 ≤ k1 ∧ k1 + l * s < 2 ^ 591 ∧ m = l.toNat, ⟨_, k1, l, none, none, none, rfl, h1, h2, hr, hkn, hkb, rfl⟩, fun m e hI => ?_⟩
        clear h1 h2 hr hkb hkn
        obtain ⟨k1, l, u1, u2, u3, rfl, h1, h2, hr, h0, hkb, rfl⟩ := hI
        walk_at "ax"
        · have hls := RM.mul_mono (c := s) (show 0 ≤ l by omega) hs0
          rw [Int.zero_mul] at hls
          refine ⟨⟨some s, rs, nv⟩, s, k1, rfl, rfl, ok, hsz, h0, by omega, fun mm st => ?_⟩
          walk_at "ax"
          have hvn := NM.val_nn (s := s) (k := k1) ok.asc hs0
          have hvu := val_up (s := s) (k := k1) ok.asc h0
          simp only at hvn hvu st
          refine ⟨some l, mm, rfl, ?_⟩
          obtain ⟨x, hx, _⟩ := minO_pos (m := l) (o := mm) (by omega) st.pos
          rw [hx]
          obtain ⟨hx1, hx2, hr2⟩ := leap_lim st (by omega) hr hx
          walk_at "ax"
          refine ⟨cmul_of (i := x) (j := val s rs k1 - k1) 600 600 ⟨by omega, by omega⟩ ⟨by omega, by omega⟩, ?_⟩
          walk_at "ax"
          have hnn : 0 ≤ k1 + x * (val s rs k1 - k1) := leap_nn ok h0 st hx (by omega)
          have hm : x * (val s rs k1 - k1) ≤ x * s := Int.mul_le_mul_of_nonneg_left (by omega) (by omega)
          refine ⟨(l - x).toNat, by omega, k1 + x * (val s rs k1 - k1), l - x, _, _, _, rfl, by omega, by omega, hr2, hnn, ?_, rfl⟩
          rw [Int.sub_mul]
          omega
        · have : l = 0 := by omega
          subst this
          rw [← hr] at q
          exact q
/-! ### Need.rounds_to_afford -/
abbrev s_Need_m_rounds_to_afford : Stmt := inClass (topS 24) 17
theorem sc_Need_m_rounds_to_afford : FnScope ["self", "needed", "purse", "k", "rounds_made", "change", "many", "enough", "leap"] ["self", "needed", "purse"] (defScope s_Need_m_rounds_to_afford) := ⟨rfl, rfl, rfl, by decide +kernel, rfl, by decide +kernel, by decide +kernel⟩
def fs_Need_m_rounds_to_afford (cNeed : Addr) : FSp := fun ds Q => ∃ (n : Nd) (k : Option Int) (p : Int), ds = [.sh (ndP cNeed n), .sh (oI k), .sh (.int p)] ∧ NOk n ∧ Sz n ∧ KIn k ∧ 0 ≤ p ∧ p < 2 ^ 500 ∧ (∀ r, RM.Least (fun j => RM.Aff p (itN n j k)) r → Q (.sh (oI r)) ds)
theorem ok_Need_m_rounds_to_afford {Pg : Program} {w : World} {K : PySem.W.Frag} {mg : Str → Option Value} {base : Heap} {a : Addr} {fd : FuncData} (F : L2.Fun K "rounds_to_afford" "Need.rounds_to_afford" s_Need_m_rounds_to_afford a fd)
    {cNeed : Addr} (T : Txt K mg cNeed)
    {a_Need_m__stride : Addr} {d_Need_m__stride : FuncData} (C_Need_m__stride : CalleeM Pg w K mg base 4 cNeed "_stride" a_Need_m__stride d_Need_m__stride ["self", "k"] (fs_Need_m__stride cNeed))
    {a_sooner : Addr} {d_sooner : FuncData} (C_sooner : Callee Pg w K mg base 1 "sooner" a_sooner d_sooner ["one", "other"] (fs_sooner cNeed)) :
    FnOk Pg w K mg base CX0 5 a fd ["self", "needed", "purse"] (spD K (fs_Need_m_rounds_to_afford cNeed)) := by
  have n_Need_start : ClsA K cNeed "start" := ⟨T.cl_Need, T.n_Need_start⟩
  have n_Need_rises : ClsA K cNeed "rises" := ⟨T.cl_Need, T.n_Need_rises⟩
  have n_Need_never : ClsA K cNeed "never" := ⟨T.cl_Need, T.n_Need_never⟩
  have n_Need__values : ClsA K cNeed "_values" := ⟨T.cl_Need, T.n_Need__values⟩
  have is_Need := T.is_Need
  refine Fun.okD [] F sc_Need_m_rounds_to_afford (fun ds QD h => ?_) (fun cdv A outer s H E hr => ⟨_, _, (dss_mid (ds_asg (de_ifExp (dt_cmp op_isN os_isN (de_v 1 (pv 1)) de_non (nomark _)) (de_fld (de_v 0 (pv 0))) (de_v 1 (pv 1))) (dg_name (pg_name (i := 3) sc_Need_m_rounds_to_afford.nd rfl (by first | exact .inl rfl | exact .inr rfl))))
    (dss_mid (ds_asg (de_ifExp (dt_cmp op_isN os_isN (de_v 1 (pv 1)) de_non (nomark _)) de_int de_int) (dg_name (pg_name (i := 4) sc_Need_m_rounds_to_afford.nd rfl (by first | exact .inl rfl | exact .inr rfl))))
    (dss_cons (ds_if (dt_cmp op_isN os_isN (de_v 3 (pv 3)) de_non (nomark _))
    (dss_one (ds_ret de_non))
    dss_nil)
    (dss_cons (ds_while PassesOwn.never (dt_cmp op_gt os_gt (de_v 3 (pv 3)) (de_v 2 (pv 2)) (nomark _))
    (dss_cons (ds_asg (de_ifExp (dt_cmp op_isN os_isN (de_fld (de_v 0 (pv 0))) de_non (nomark _)) (de_tup (da_cons de_int (da_cons de_non da_nil))) (de_meth (fun ho h => pe_meth ho C_Need_m__stride.c C_Need_m__stride.m C_Need_m__stride.ok hr C_Need_m__stride.b .nil pass0 h) (de_v 0 (pv 0)) (da_cons (de_v 3 (pv 3)) da_nil))) (dg_seq (fun h => pg_tup rfl h) (fun h => pg_unl rfl h) (dgs_cons (dg_name (pg_name (i := 5) sc_Need_m_rounds_to_afford.nd rfl (by first | exact .inl rfl | exact .inr rfl))) (dgs_cons (dg_name (pg_name (i := 6) sc_Need_m_rounds_to_afford.nd rfl (by first | exact .inl rfl | exact .inr rfl))) dgs_nil))))
    (dss_cons (ds_if (dt_cmp op_ge os_ge (de_v 5 (pv 5)) de_int (nomark _))
    (dss_one (ds_ret de_non))
    dss_nil)
    (dss_cons (ds_asg (de_op op_add os_add (de_op op_fdivW os_div (de_op op_sub os_sub (de_op op_sub os_sub (de_v 3 (pv 3)) (de_v 2 (pv 2))) de_int) (de_un un_neg us_neg (de_v 5 (pv 5)))) de_int) (dg_name (pg_name (i := 7) sc_Need_m_rounds_to_afford.nd rfl (by first | exact .inl rfl | exact .inr rfl))))
    (dss_cons (ds_asg (de_o (do_callP (fun h => pe_call C_sooner.ok (hr.mono (by decide)) (by rfl) C_sooner.g C_sooner.kp C_sooner.b .nil pass0 h) (da_cons (de_v 7 (pv 7)) (da_cons (de_v 6 (pv 6)) da_nil)))) (dg_name (pg_name (i := 8) sc_Need_m_rounds_to_afford.nd rfl (by first | exact .inl rfl | exact .inr rfl))))
    (dss_cons (ds_asg (de_op op_add os_add (de_v 3 (pv 3)) (de_op op_mulW os_mul (de_v 8 (pv 8)) (de_v 5 (pv 5)))) (dg_name (pg_name (i := 3) sc_Need_m_rounds_to_afford.nd rfl (by first | exact .inl rfl | exact .inr rfl))))
    (dss_one (ds_asg (de_op op_add os_add (de_v 4 (pv 4)) (de_v 8 (pv 8))) (dg_name (pg_name (i := 4) sc_Need_m_rounds_to_afford.nd rfl (by first | exact .inl rfl | exact .inr rfl)))))))))))
    (dss_one (ds_ret (de_v 4 (pv 4)))))))), fun ds QD h => ?_⟩)
  · first
      | (obtain ⟨rfl, _⟩ := h; exact ⟨rfl, rfl⟩)
      | (obtain ⟨_, rfl, _⟩ := h; exact ⟨rfl, rfl⟩)
      | (obtain ⟨_, _, rfl, _⟩ := h; exact ⟨rfl, rfl⟩)
      | (obtain ⟨_, _, _, rfl, _⟩ := h; exact ⟨rfl, rfl⟩)
      | (obtain ⟨_, _, _, _, rfl, _⟩ := h; exact ⟨rfl, rfl⟩)
      | (obtain ⟨_, _, _, _, _, rfl, _⟩ := h; exact ⟨rfl, rfl⟩)
      | (obtain ⟨_, _, _, _, _, _, rfl, _⟩ := h; exact ⟨rfl, rfl⟩)
      | (obtain ⟨_, _, _, _, _, _, _, rfl, _⟩ := h; exact ⟨rfl, rfl⟩)
      | (obtain ⟨_, _, _, _, _, _, _, _, rfl, _⟩ := h; exact ⟨rfl, rfl⟩)
      | (obtain ⟨_, _, _, _, _, _, _, _, _, rfl, _⟩ := h; exact ⟨rfl, rfl⟩)
      | (obtain ⟨_, _, _, _, _, _, _, _, _, _, rfl, _⟩ := h; exact ⟨rfl, rfl⟩)
      | (obtain ⟨_, _, _, _, _, _, _, _, _, _, _, rfl, _⟩ := h; exact ⟨rfl, rfl⟩)
  · obtain ⟨⟨s, rs, nv⟩, k, p, rfl, ok, sz, hk, hp, hp2, q⟩ := h
    have hv : ∀ v, nv = some v → 0 ≤ v ∧ v < 2 ^ 390 := fun v e => ⟨nv_nn ok e, sz.nv v e⟩
    walk_at "go"
    refine ⟨fun env => ∃ (k1 : Option Int) (c : Nat), env = [some (.sh (ndP cNeed ⟨s, rs, nv⟩)), some (.sh (oI k)), some (.sh (.int p)), some (.sh (oI k1)), none, none, none, none, none] ∧ RM.Wk (nval ⟨s, rs, nv⟩) (RM.Aff p) k c k1 ∧ KIn k1 ∧ (c : Int) = (if k = none then 1 else 0) ∧ (k1 = none → nv = none), ?_, ?_⟩
    · cases k with
      | none =>
        walk_at "ax"
        exact ⟨nv, 1, rfl, (RM.Wk.zero none).one aff_none (by unfold nval; cases s <;> rfl), fun v e => by have := hv v e; omega, rfl, id⟩
      | some k =>
        walk_at "ax"
        exact ⟨some k, 0, rfl, .zero _, hk, rfl, fun e => by cases e⟩
    rintro _ ⟨k1, c, rfl, w, hk1, hc, hkn⟩
    walk_at "go"
    refine ⟨fun env => env = [some (.sh (ndP cNeed ⟨s, rs, nv⟩)), some (.sh (oI k)), some (.sh (.int p)), some (.sh (oI k1)), some (.sh (.int (c : Int))), none, none, none, none], ?_, ?_⟩
    · cases k with
      | none =>
        rw [hc]
        walk_at "ax"
        rfl
      | some k =>
        rw [hc]
        walk_at "ax"
        rfl
    rintro _ rfl
    clear hc
    cases k1 with
    | none =>
      walk_at "ax"
      refine q none (w.never fun j a => ?_)
      have e := it_none (n := ⟨s, rs, nv⟩) (hkn rfl) j
      rw [e] at a
      exact a
    | some k1 =>
      have hk0 := hk1 k1 rfl
      walk_at "ax"
      refine ⟨fun m e => ∃ (k1 : Int) (c : Nat) (u1 u2 u3 u4 : Option D), e = [some (.sh (ndP cNeed ⟨s, rs, nv⟩)), some (.sh (oI k)), some (.sh (.int p)), some (.sh (.int k1)), some (.sh (.int (c : Int))), u1, u2, u3, u4] ∧ RM.Wk (nval ⟨s, rs, nv⟩) (RM.Aff p) k c (some k1) ∧ 0 ≤ k1 ∧ k1 < 2 ^ 500 ∧ m = (k1 - p).toNat, ⟨_, k1, c, none, none, none, none, rfl, w, hk0.1, hk0.2, rfl⟩, fun m e hI => ?_⟩
      clear hkn hk0 hk1 w
      obtain ⟨k1, c, u1, u2, u3, u4, rfl, w, h0, h1, rfl⟩ := hI
      cases s with
      | none =>
        have hn := ok.nvn rfl
        simp only at hn
        subst hn
        walk_at "ax"
        · refine q none (w.never fun j a => ?_)
          cases j with
          | zero =>
            have : k1 ≤ p := a
            omega
          | succ j =>
            have e := it_sn (n := ⟨none, rs, none⟩) rfl rfl (some k1) j
            rw [e] at a
            exact a
        · exact q _ (w.done (by show k1 ≤ p; omega))
      | some s =>
        walk_at "ax"
        · refine ⟨⟨some s, rs, nv⟩, s, k1, rfl, rfl, ok, sz.s s rfl, h0, by omega, fun mm st => ?_⟩
          walk_at "ax"
          · exact q none (w.never (no_aff ok rfl (by assumption) (by show k1 ≤ val s rs k1; omega)))
          have hvn := NM.val_nn (s := s) (k := k1) ok.asc (ok.s0 s rfl)
          simp only at hvn st
          have hch : val s rs k1 - k1 < 0 := by assumption
          refine ⟨lt600 (show -(val s rs k1 - k1) < 2 ^ 600 by omega) (show 0 < -(val s rs k1 - k1) by omega), ?_⟩
          walk_at "ax"
          refine ⟨some ((k1 - p - 1) / -(val s rs k1 - k1) + 1), mm, rfl, ?_⟩
          obtain ⟨x, hx, _⟩ := minO_pos (m := (k1 - p - 1) / -(val s rs k1 - k1) + 1) (o := mm) (by have := RM.div_nn (show 0 ≤ k1 - p - 1 by omega) (show 0 < -(val s rs k1 - k1) by omega); omega) st.pos
          rw [hx]
          obtain ⟨c2, hc2, hx1, hlt, w2, hx2⟩ := leap_dn st w (by assumption) hch hx
          have hx3 := RM.div_le_self (show 0 ≤ k1 - p - 1 by omega) (show 0 < -(val s rs k1 - k1) by omega)
          have hkk : 0 ≤ k1 + x * (val s rs k1 - k1) := wk_nn ok hk w2
          walk_at "ax"
          refine ⟨cmul_of (i := x) (j := val s rs k1 - k1) 600 600 ⟨by omega, by omega⟩ ⟨by omega, by omega⟩, ?_⟩
          walk_at "ax"
          exact ⟨(k1 + x * (val s rs k1 - k1) - p).toNat, by omega, k1 + x * (val s rs k1 - k1), c2, _, _, _, _, by rw [hc2]; rfl, w2, hkk, by omega, rfl⟩
        · exact q _ (w.done (by show k1 ≤ p; omega))
/-! ### Need.rounds_to_exceed -/
abbrev s_Need_m_rounds_to_exceed : Stmt := inClass (topS 24) 18
theorem sc_Need_m_rounds_to_exceed : FnScope ["self", "needed", "purse", "k", "rounds_made", "change", "many", "leap"] ["self", "needed", "purse"] (defScope s_Need_m_rounds_to_exceed) := ⟨rfl, rfl, rfl, by decide +kernel, rfl, by decide +kernel, by decide +kernel⟩
def fs_Need_m_rounds_to_exceed (cNeed : Addr) : FSp := fun ds Q => ∃ (n : Nd) (k : Option Int) (p : Int), ds = [.sh (ndP cNeed n), .sh (oI k), .sh (.int p)] ∧ NOk n ∧ Sz n ∧ KIn k ∧ 0 ≤ p ∧ p < 2 ^ 500 ∧ (∀ r, RM.Least (fun j => RM.Exc p (itN n j k)) r → Q (.sh (oI r)) ds)
theorem ok_Need_m_rounds_to_exceed {Pg : Program} {w : World} {K : PySem.W.Frag} {mg : Str → Option Value} {base : Heap} {a : Addr} {fd : FuncData} (F : L2.Fun K "rounds_to_exceed" "Need.rounds_to_exceed" s_Need_m_rounds_to_exceed a fd)
    {cNeed : Addr} (T : Txt K mg cNeed)
    {a_exceeds : Addr} {d_exceeds : FuncData} (C_exceeds : Callee Pg w K mg base 1 "exceeds" a_exceeds d_exceeds ["one", "other"] (fs_exceeds cNeed))
    {a_Need_m__stride : Addr} {d_Need_m__stride : FuncData} (C_Need_m__stride : CalleeM Pg w K mg base 4 cNeed "_stride" a_Need_m__stride d_Need_m__stride ["self", "k"] (fs_Need_m__stride cNeed))
    {a_sooner : Addr} {d_sooner : FuncData} (C_sooner : Callee Pg w K mg base 1 "sooner" a_sooner d_sooner ["one", "other"] (fs_sooner cNeed)) :
    FnOk Pg w K mg base CX0 5 a fd ["self", "needed", "purse"] (spD K (fs_Need_m_rounds_to_exceed cNeed)) := by
  have n_Need_start : ClsA K cNeed "start" := ⟨T.cl_Need, T.n_Need_start⟩
  have n_Need_rises : ClsA K cNeed "rises" := ⟨T.cl_Need, T.n_Need_rises⟩
  have n_Need_never : ClsA K cNeed "never" := ⟨T.cl_Need, T.n_Need_never⟩
  have n_Need__values : ClsA K cNeed "_values" := ⟨T.cl_Need, T.n_Need__values⟩
  have is_Need := T.is_Need
  refine Fun.okD [] F sc_Need_m_rounds_to_exceed (fun ds QD h => ?_) (fun cdv A outer s H E hr => ⟨_, _, (dss_cons (ds_asg (de_v 1 (pv 1)) (dg_name (pg_name (i := 3) sc_Need_m_rounds_to_exceed.nd rfl (by first | exact .inl rfl | exact .inr rfl))))
    (dss_cons (ds_asg de_int (dg_name (pg_name (i := 4) sc_Need_m_rounds_to_exceed.nd rfl (by first | exact .inl rfl | exact .inr rfl))))
    (dss_cons (ds_while PassesOwn.never (dt_not (dt_tru (de_o (do_callP (fun h => pe_call C_exceeds.ok (hr.mono (by decide)) (by rfl) C_exceeds.g C_exceeds.kp C_exceeds.b .nil pass0 h) (da_cons (de_v 3 (pv 3)) (da_cons (de_v 2 (pv 2)) da_nil))))))
    (dss_cons (ds_if (dt_cmp op_isN os_isN (de_fld (de_v 0 (pv 0))) de_non (nomark _))
    (dss_one (ds_ret (de_op op_add os_add (de_v 4 (pv 4)) de_int)))
    dss_nil)
    (dss_cons (ds_asg (de_meth (fun ho h => pe_meth ho C_Need_m__stride.c C_Need_m__stride.m C_Need_m__stride.ok hr C_Need_m__stride.b .nil pass0 h) (de_v 0 (pv 0)) (da_cons (de_v 3 (pv 3)) da_nil)) (dg_seq (fun h => pg_tup rfl h) (fun h => pg_unl rfl h) (dgs_cons (dg_name (pg_name (i := 5) sc_Need_m_rounds_to_exceed.nd rfl (by first | exact .inl rfl | exact .inr rfl))) (dgs_cons (dg_name (pg_name (i := 6) sc_Need_m_rounds_to_exceed.nd rfl (by first | exact .inl rfl | exact .inr rfl))) dgs_nil))))
    (dss_cons (ds_if (dt_cmp op_le os_le (de_v 5 (pv 5)) de_int (nomark _))
    (dss_one (ds_ret de_non))
    dss_nil)
    (dss_cons (ds_asg (de_o (do_callP (fun h => pe_call C_sooner.ok (hr.mono (by decide)) (by rfl) C_sooner.g C_sooner.kp C_sooner.b .nil pass0 h) (da_cons (de_op op_add os_add (de_op op_fdivW os_div (de_op op_sub os_sub (de_v 2 (pv 2)) (de_v 3 (pv 3))) (de_v 5 (pv 5))) de_int) (da_cons (de_v 6 (pv 6)) da_nil)))) (dg_name (pg_name (i := 7) sc_Need_m_rounds_to_exceed.nd rfl (by first | exact .inl rfl | exact .inr rfl))))
    (dss_cons (ds_asg (de_op op_add os_add (de_v 3 (pv 3)) (de_op op_mulW os_mul (de_v 7 (pv 7)) (de_v 5 (pv 5)))) (dg_name (pg_name (i := 3) sc_Need_m_rounds_to_exceed.nd rfl (by first | exact .inl rfl | exact .inr rfl))))
    (dss_one (ds_asg (de_op op_add os_add (de_v 4 (pv 4)) (de_v 7 (pv 7))) (dg_name (pg_name (i := 4) sc_Need_m_rounds_to_exceed.nd rfl (by first | exact .inl rfl | exact .inr rfl)))))))))))
    (dss_one (ds_ret (de_v 4 (pv 4))))))), fun ds QD h => ?_⟩)
  · first
      | (obtain ⟨rfl, _⟩ := h; exact ⟨rfl, rfl⟩)
      | (obtain ⟨_, rfl, _⟩ := h; exact ⟨rfl, rfl⟩)
      | (obtain ⟨_, _, rfl, _⟩ := h; exact ⟨rfl, rfl⟩)
      | (obtain ⟨_, _, _, rfl, _⟩ := h; exact ⟨rfl, rfl⟩)
      | (obtain ⟨_, _, _, _, rfl, _⟩ := h; exact ⟨rfl, rfl⟩)
      | (obtain ⟨_, _, _, _, _, rfl, _⟩ := h; exact ⟨rfl, rfl⟩)
      | (obtain ⟨_, _, _, _, _, _, rfl, _⟩ := h; exact ⟨rfl, rfl⟩)
      | (obtain ⟨_, _, _, _, _, _, _, rfl, _⟩ := h; exact ⟨rfl, rfl⟩)
      | (obtain ⟨_, _, _, _, _, _, _, _, rfl, _⟩ := h; exact ⟨rfl, rfl⟩)
      | (obtain ⟨_, _, _, _, _, _, _, _, _, rfl, _⟩ := h; exact ⟨rfl, rfl⟩)
      | (obtain ⟨_, _, _, _, _, _, _, _, _, _, rfl, _⟩ := h; exact ⟨rfl, rfl⟩)
      | (obtain ⟨_, _, _, _, _, _, _, _, _, _, _, rfl, _⟩ := h; exact ⟨rfl, rfl⟩)
  · obtain ⟨⟨s, rs, nv⟩, k, p, rfl, ok, sz, hk, hp, hp2, q⟩ := h
    walk_at "ax"
    cases k with
    | none =>
      refine ⟨fun m e => e = [some (.sh (ndP cNeed ⟨s, rs, nv⟩)), some (.sh .non), some (.sh (.int p)), some (.sh .non), some (.sh (.int 0)), none, none, none], ⟨0, rfl⟩, fun m e hI => ?_⟩
      subst hI
      walk_at "ax"
      refine ⟨none, some p, rfl, ?_⟩
      walk_at "ax"
      exact q (some 0) ((RM.Wk.zero none).done exc_none)
    | some k =>
      have hk0 := hk k rfl
      refine ⟨fun m e => ∃ (k1 : Int) (c : Nat) (u1 u2 u3 : Option D), e = [some (.sh (ndP cNeed ⟨s, rs, nv⟩)), some (.sh (oI (some k))), some (.sh (.int p)), some (.sh (.int k1)), some (.sh (.int (c : Int))), u1, u2, u3] ∧ RM.Wk (nval ⟨s, rs, nv⟩) (RM.Exc p) (some k) c (some k1) ∧ 0 ≤ k1 ∧ m = (p + 1 - k1).toNat, ⟨_, k, 0, none, none, none, rfl, .zero _, hk0.1, rfl⟩, fun m e hI => ?_⟩
      obtain ⟨k1, c, u1, u2, u3, rfl, w, h0, rfl⟩ := hI
      walk_at "ax"
      refine ⟨some k1, some p, rfl, ?_⟩
      show cnd (!(decide (k1 > p))) _ _
      by_cases hkp : p < k1
      · rw [show decide (k1 > p) = true from decide_eq_true hkp]
        walk_at "ax"
        exact q _ (w.done (exc_some.mpr hkp))
      rw [show decide (k1 > p) = false from decide_eq_false hkp]
      cases s with
      | none =>
        have hn := ok.nvn rfl
        simp only at hn
        subst hn
        walk_at "ax"
        exact q (some ((c : Int) + 1)) ((w.one (fun a => by have := exc_some.mp a; omega) (show nval ⟨none, rs, none⟩ (some k1) = none from rfl)).done exc_none)
      | some s =>
        walk_at "ax"
        refine ⟨⟨some s, rs, nv⟩, s, k1, rfl, rfl, ok, sz.s s rfl, h0, by omega, fun mm st => ?_⟩
        walk_at "ax"
        · exact q none (w.never (no_exc ok rfl (by omega) (by show val s rs k1 ≤ k1; omega)))
        have hvn := NM.val_nn (s := s) (k := k1) ok.asc (ok.s0 s rfl)
        have hvu := val_up (s := s) (k := k1) ok.asc h0
        have hsz := sz.s s rfl
        simp only at hvn hvu st
        have hch : 0 < val s rs k1 - k1 := by assumption
        refine ⟨lt600 (show (val s rs k1 - k1) < 2 ^ 600 by omega) hch, ?_⟩
        walk_at "ax"
        refine ⟨some ((p - k1) / (val s rs k1 - k1) + 1), mm, rfl, ?_⟩
        obtain ⟨x, hx, _⟩ := minO_pos (m := (p - k1) / (val s rs k1 - k1) + 1) (o := mm) (by have := RM.div_nn (show 0 ≤ p - k1 by omega) hch; omega) st.pos
        rw [hx]
        obtain ⟨c2, hc2, hx1, hlt, w2, hx2⟩ := leap_up st w (by omega) hch hx
        have hx3 := RM.div_le_self (show 0 ≤ p - k1 by omega) hch
        walk_at "ax"
        refine ⟨cmul_of (i := x) (j := val s rs k1 - k1) 600 600 ⟨by omega, by omega⟩ ⟨by omega, by omega⟩, ?_⟩
        walk_at "ax"
        exact ⟨(p + 1 - (k1 + x * (val s rs k1 - k1))).toNat, by omega, k1 + x * (val s rs k1 - k1), c2, _, _, _, by rw [hc2]; rfl, w2, by omega, rfl⟩
/-! ### _law_make -/
abbrev s__law_make : Stmt := topS 33
theorem sc__law_make : FnScope ["need"] ["need"] (defScope s__law_make) := ⟨rfl, rfl, rfl, by decide +kernel, rfl, by decide +kernel, by decide +kernel⟩
def fs__law_make (cNeed : Addr) : FSp := fun ds Q => ∃ (n : Nd), ds = [.sh (needL n)] ∧ NOk n ∧ Q (.sh (ndP cNeed n)) ds
theorem ok__law_make {Pg : Program} {w : World} {K : PySem.W.Frag} {mg : Str → Option Value} {base : Heap} {a : Addr} {fd : FuncData} (F : L2.Fun K "_law_make" "_law_make" s__law_make a fd)
    {cNeed : Addr} (T : Txt K mg cNeed)
    {a_Need_m___init__ : Addr} {d_Need_m___init__ : FuncData} (C_Need_m___init__ : CalleeC Pg w K mg base 3 "Need" cNeed a_Need_m___init__ d_Need_m___init__ ["self", "start", "rises", "never"] (fs_Need_m___init__ cNeed)) :
    FnOk Pg w K mg base CX0 5 a fd ["need"] (spD K (fs__law_make cNeed)) := by
  have n_Need_start : ClsA K cNeed "start" := ⟨T.cl_Need, T.n_Need_start⟩
  have n_Need_rises : ClsA K cNeed "rises" := ⟨T.cl_Need, T.n_Need_rises⟩
  have n_Need_never : ClsA K cNeed "never" := ⟨T.cl_Need, T.n_Need_never⟩
  have n_Need__values : ClsA K cNeed "_values" := ⟨T.cl_Need, T.n_Need__values⟩
  have is_Need := T.is_Need
  refine Fun.okD [] F sc__law_make (fun ds QD h => ?_) (fun cdv A outer s H E hr => ⟨_, _, (dss_one (ds_ret (de_make (fun h => pe_make C_Need_m___init__.m C_Need_m___init__.ok hr (by rfl) C_Need_m___init__.g C_Need_m___init__.b .nil pass0 h) (da_cons (de_ix ix_seq os_ix (de_v 0 (pv 0)) de_int) (da_cons (de_ix ix_seq os_ix (de_v 0 (pv 0)) de_int) (da_cons (de_ix ix_seq os_ix (de_v 0 (pv 0)) de_int) da_nil)))))), fun ds QD h => ?_⟩)
  · first
      | (obtain ⟨rfl, _⟩ := h; exact ⟨rfl, rfl⟩)
      | (obtain ⟨_, rfl, _⟩ := h; exact ⟨rfl, rfl⟩)
      | (obtain ⟨_, _, rfl, _⟩ := h; exact ⟨rfl, rfl⟩)
      | (obtain ⟨_, _, _, rfl, _⟩ := h; exact ⟨rfl, rfl⟩)
      | (obtain ⟨_, _, _, _, rfl, _⟩ := h; exact ⟨rfl, rfl⟩)
      | (obtain ⟨_, _, _, _, _, rfl, _⟩ := h; exact ⟨rfl, rfl⟩)
      | (obtain ⟨_, _, _, _, _, _, rfl, _⟩ := h; exact ⟨rfl, rfl⟩)
      | (obtain ⟨_, _, _, _, _, _, _, rfl, _⟩ := h; exact ⟨rfl, rfl⟩)
      | (obtain ⟨_, _, _, _, _, _, _, _, rfl, _⟩ := h; exact ⟨rfl, rfl⟩)
      | (obtain ⟨_, _, _, _, _, _, _, _, _, rfl, _⟩ := h; exact ⟨rfl, rfl⟩)
      | (obtain ⟨_, _, _, _, _, _, _, _, _, _, rfl, _⟩ := h; exact ⟨rfl, rfl⟩)
      | (obtain ⟨_, _, _, _, _, _, _, _, _, _, _, rfl, _⟩ := h; exact ⟨rfl, rfl⟩)
  · obtain ⟨n, rfl, ok, q⟩ := h
    walk_at "au"
    refine ⟨true, n, rfl, ok, ?_⟩
    walk_at "au"
    exact q
/-! ### Need.highest -/
abbrev s_Need_m_highest : Stmt := inClass (topS 24) 21
theorem sc_Need_m_highest : FnScope ["self", "needed", "limit", "last"] ["self", "needed", "limit"] (defScope s_Need_m_highest) := ⟨rfl, rfl, rfl, by decide +kernel, rfl, by decide +kernel, by decide +kernel⟩
def fs_Need_m_highest (cNeed : Addr) : FSp := fun ds Q => ∃ (n : Nd) (k : Option Int) (L : Int), ds = [.sh (ndP cNeed n), .sh (oI k), .sh (.int L)] ∧ NOk n ∧ Sz n ∧ KIn k ∧ 0 ≤ L ∧ L < 2 ^ 200 ∧ Q (.sh (oI (maxO k (RM.it (nval n) L.toNat k)))) ds
theorem ok_Need_m_highest {Pg : Program} {w : World} {K : PySem.W.Frag} {mg : Str → Option Value} {base : Heap} {a : Addr} {fd : FuncData} (F : L2.Fun K "highest" "Need.highest" s_Need_m_highest a fd)
    {cNeed : Addr} (T : Txt K mg cNeed)
    {a_Need_m__after : Addr} {d_Need_m__after : FuncData} (C_Need_m__after : CalleeM Pg w K mg base 5 cNeed "_after" a_Need_m__after d_Need_m__after ["self", "k", "limit"] (fs_Need_m__after cNeed))
    {a_exceeds : Addr} {d_exceeds : FuncData} (C_exceeds : Callee Pg w K mg base 1 "exceeds" a_exceeds d_exceeds ["one", "other"] (fs_exceeds cNeed)) :
    FnOk Pg w K mg base CX0 6 a fd ["self", "needed", "limit"] (spD K (fs_Need_m_highest cNeed)) := by
  have n_Need_start : ClsA K cNeed "start" := ⟨T.cl_Need, T.n_Need_start⟩
  have n_Need_rises : ClsA K cNeed "rises" := ⟨T.cl_Need, T.n_Need_rises⟩
  have n_Need_never : ClsA K cNeed "never" := ⟨T.cl_Need, T.n_Need_never⟩
  have n_Need__values : ClsA K cNeed "_values" := ⟨T.cl_Need, T.n_Need__values⟩
  have is_Need := T.is_Need
  refine Fun.okD [] F sc_Need_m_highest (fun ds QD h => ?_) (fun cdv A outer s H E hr => ⟨_, _, (dss_cons (ds_asg (de_meth (fun ho h => pe_meth ho C_Need_m__after.c C_Need_m__after.m C_Need_m__after.ok hr C_Need_m__after.b .nil pass0 h) (de_v 0 (pv 0)) (da_cons (de_v 1 (pv 1)) (da_cons (de_v 2 (pv 2)) da_nil))) (dg_name (pg_name (i := 3) sc_Need_m_highest.nd rfl (by first | exact .inl rfl | exact .inr rfl))))
    (dss_one (ds_ret (de_ifExp (dt_tru (de_o (do_callP (fun h => pe_call C_exceeds.ok (hr.mono (by decide)) (by rfl) C_exceeds.g C_exceeds.kp C_exceeds.b .nil pass0 h) (da_cons (de_v 1 (pv 1)) (da_cons (de_v 3 (pv 3)) da_nil))))) (de_v 1 (pv 1)) (de_v 3 (pv 3)))))), fun ds QD h => ?_⟩)
  · first
      | (obtain ⟨rfl, _⟩ := h; exact ⟨rfl, rfl⟩)
      | (obtain ⟨_, rfl, _⟩ := h; exact ⟨rfl, rfl⟩)
      | (obtain ⟨_, _, rfl, _⟩ := h; exact ⟨rfl, rfl⟩)
      | (obtain ⟨_, _, _, rfl, _⟩ := h; exact ⟨rfl, rfl⟩)
      | (obtain ⟨_, _, _, _, rfl, _⟩ := h; exact ⟨rfl, rfl⟩)
      | (obtain ⟨_, _, _, _, _, rfl, _⟩ := h; exact ⟨rfl, rfl⟩)
      | (obtain ⟨_, _, _, _, _, _, rfl, _⟩ := h; exact ⟨rfl, rfl⟩)
      | (obtain ⟨_, _, _, _, _, _, _, rfl, _⟩ := h; exact ⟨rfl, rfl⟩)
      | (obtain ⟨_, _, _, _, _, _, _, _, rfl, _⟩ := h; exact ⟨rfl, rfl⟩)
      | (obtain ⟨_, _, _, _, _, _, _, _, _, rfl, _⟩ := h; exact ⟨rfl, rfl⟩)
      | (obtain ⟨_, _, _, _, _, _, _, _, _, _, rfl, _⟩ := h; exact ⟨rfl, rfl⟩)
      | (obtain ⟨_, _, _, _, _, _, _, _, _, _, _, rfl, _⟩ := h; exact ⟨rfl, rfl⟩)
  · obtain ⟨n, k, L, rfl, ok, sz, hk, hL, hL2, q⟩ := h
    walk_at "ax"
    refine ⟨n, k, L, rfl, ok, sz, hk, hL, hL2, ?_⟩
    walk_at "ax"
    refine ⟨k, _, rfl, ?_⟩
    unfold maxO at q
    cases e : excB k (RM.it (nval n) L.toNat k) with
    | true =>
      rw [e] at q
      walk_at "ax"
      exact q
    | false =>
      rw [e] at q
      walk_at "ax"
      exact q
/-! ### Need.lowest -/
abbrev s_Need_m_lowest : Stmt := inClass (topS 24) 20
theorem sc_Need_m_lowest : FnScope ["self", "needed", "limit"] ["self", "needed", "limit"] (defScope s_Need_m_lowest) := ⟨rfl, rfl, rfl, by decide +kernel, rfl, by decide +kernel, by decide +kernel⟩
def fs_Need_m_lowest (cNeed : Addr) : FSp := fun ds Q => ∃ (n : Nd) (k : Option Int) (L : Int), ds = [.sh (ndP cNeed n), .sh (oI k), .sh (.int L)] ∧ NOk n ∧ Sz n ∧ KIn k ∧ 0 ≤ L ∧ L < 2 ^ 200 ∧ Q (.sh (oI (minO k (RM.it (nval n) L.toNat k)))) ds
theorem ok_Need_m_lowest {Pg : Program} {w : World} {K : PySem.W.Frag} {mg : Str → Option Value} {base : Heap} {a : Addr} {fd : FuncData} (F : L2.Fun K "lowest" "Need.lowest" s_Need_m_lowest a fd)
    {cNeed : Addr} (T : Txt K mg cNeed)
    {a_sooner : Addr} {d_sooner : FuncData} (C_sooner : Callee Pg w K mg base 1 "sooner" a_sooner d_sooner ["one", "other"] (fs_sooner cNeed))
    {a_Need_m__after : Addr} {d_Need_m__after : FuncData} (C_Need_m__after : CalleeM Pg w K mg base 5 cNeed "_after" a_Need_m__after d_Need_m__after ["self", "k", "limit"] (fs_Need_m__after cNeed)) :
    FnOk Pg w K mg base CX0 6 a fd ["self", "needed", "limit"] (spD K (fs_Need_m_lowest cNeed)) := by
  have n_Need_start : ClsA K cNeed "start" := ⟨T.cl_Need, T.n_Need_start⟩
  have n_Need_rises : ClsA K cNeed "rises" := ⟨T.cl_Need, T.n_Need_rises⟩
  have n_Need_never : ClsA K cNeed "never" := ⟨T.cl_Need, T.n_Need_never⟩
  have n_Need__values : ClsA K cNeed "_values" := ⟨T.cl_Need, T.n_Need__values⟩
  have is_Need := T.is_Need
  refine Fun.okD [] F sc_Need_m_lowest (fun ds QD h => ?_) (fun cdv A outer s H E hr => ⟨_, _, (dss_one (ds_ret (de_o (do_callP (fun h => pe_call C_sooner.ok (hr.mono (by decide)) (by rfl) C_sooner.g C_sooner.kp C_sooner.b .nil pass0 h) (da_cons (de_v 1 (pv 1)) (da_cons (de_meth (fun ho h => pe_meth ho C_Need_m__after.c C_Need_m__after.m C_Need_m__after.ok hr C_Need_m__after.b .nil pass0 h) (de_v 0 (pv 0)) (da_cons (de_v 1 (pv 1)) (da_cons (de_v 2 (pv 2)) da_nil))) da_nil)))))), fun ds QD h => ?_⟩)
  · first
      | (obtain ⟨rfl, _⟩ := h; exact ⟨rfl, rfl⟩)
      | (obtain ⟨_, rfl, _⟩ := h; exact ⟨rfl, rfl⟩)
      | (obtain ⟨_, _, rfl, _⟩ := h; exact ⟨rfl, rfl⟩)
      | (obtain ⟨_, _, _, rfl, _⟩ := h; exact ⟨rfl, rfl⟩)
      | (obtain ⟨_, _, _, _, rfl, _⟩ := h; exact ⟨rfl, rfl⟩)
      | (obtain ⟨_, _, _, _, _, rfl, _⟩ := h; exact ⟨rfl, rfl⟩)
      | (obtain ⟨_, _, _, _, _, _, rfl, _⟩ := h; exact ⟨rfl, rfl⟩)
      | (obtain ⟨_, _, _, _, _, _, _, rfl, _⟩ := h; exact ⟨rfl, rfl⟩)
      | (obtain ⟨_, _, _, _, _, _, _, _, rfl, _⟩ := h; exact ⟨rfl, rfl⟩)
      | (obtain ⟨_, _, _, _, _, _, _, _, _, rfl, _⟩ := h; exact ⟨rfl, rfl⟩)
      | (obtain ⟨_, _, _, _, _, _, _, _, _, _, rfl, _⟩ := h; exact ⟨rfl, rfl⟩)
      | (obtain ⟨_, _, _, _, _, _, _, _, _, _, _, rfl, _⟩ := h; exact ⟨rfl, rfl⟩)
  · obtain ⟨n, k, L, rfl, ok, sz, hk, hL, hL2, q⟩ := h
    walk_at "ax"
    refine ⟨n, k, L, rfl, ok, sz, hk, hL, hL2, ?_⟩
    walk_at "ax"
    refine ⟨k, _, rfl, ?_⟩
    walk_at "ax"
    exact q
/-! ### _law_small -/
abbrev s__law_small : Stmt := topS 37
theorem sc__law_small : FnScope ["f", "need", "k", "purse", "values", "down", "up"] ["f", "need", "k", "purse"] (defScope s__law_small) := ⟨rfl, rfl, rfl, by decide +kernel, rfl, by decide +kernel, by decide +kernel⟩
def fs__law_small (cNeed : Addr) : FSp := fun ds Q => ∃ (n : Nd) (k : Option Int) (p : Int), ds = [.sh (ndP cNeed n), .sh (needL n), .sh (oI k), .sh (.int p)] ∧ NOk n ∧ Sz n ∧ KIn k ∧ 0 ≤ p ∧ p < 2 ^ 500 ∧ Q (.sh (.bl true)) ds
theorem ok__law_small {Pg : Program} {w : World} {K : PySem.W.Frag} {mg : Str → Option Value} {base : Heap} {a : Addr} {fd : FuncData} (F : L2.Fun K "_law_small" "_law_small" s__law_small a fd)
    {cNeed : Addr} (T : Txt K mg cNeed)
    {a__law_values : Addr} {d__law_values : FuncData} (C__law_values : Callee Pg w K mg base 2 "_law_values" a__law_values d__law_values ["need", "k", "many"] (fs__law_values cNeed))
    {a_Need_m_rounds_to_afford : Addr} {d_Need_m_rounds_to_afford : FuncData} (C_Need_m_rounds_to_afford : CalleeM Pg w K mg base 5 cNeed "rounds_to_afford" a_Need_m_rounds_to_afford d_Need_m_rounds_to_afford ["self", "needed", "purse"] (fs_Need_m_rounds_to_afford cNeed))
    {a_Need_m_rounds_to_exceed : Addr} {d_Need_m_rounds_to_exceed : FuncData} (C_Need_m_rounds_to_exceed : CalleeM Pg w K mg base 5 cNeed "rounds_to_exceed" a_Need_m_rounds_to_exceed d_Need_m_rounds_to_exceed ["self", "needed", "purse"] (fs_Need_m_rounds_to_exceed cNeed))
    {a__law_count_right : Addr} {d__law_count_right : FuncData} (C__law_count_right : Callee Pg w K mg base 2 "_law_count_right" a__law_count_right d__law_count_right ["told", "values", "purse", "above"] (fs__law_count_right cNeed))
    {a__law_stuck : Addr} {d__law_stuck : FuncData} (C__law_stuck : Callee Pg w K mg base 1 "_law_stuck" a__law_stuck d__law_stuck ["values", "purse", "above"] (fs__law_stuck cNeed)) :
    FnOk Pg w K mg base CX0 6 a fd ["f", "need", "k", "purse"] (spD K (fs__law_small cNeed)) := by
  have n_Need_start : ClsA K cNeed "start" := ⟨T.cl_Need, T.n_Need_start⟩
  have n_Need_rises : ClsA K cNeed "rises" := ⟨T.cl_Need, T.n_Need_rises⟩
  have n_Need_never : ClsA K cNeed "never" := ⟨T.cl_Need, T.n_Need_never⟩
  have n_Need__values : ClsA K cNeed "_values" := ⟨T.cl_Need, T.n_Need__values⟩
  have is_Need := T.is_Need
  refine Fun.okD [] F sc__law_small (fun ds QD h => ?_) (fun cdv A outer s H E hr => ⟨_, _, (dss_cons (ds_asg (de_o (do_callP (fun h => pe_call C__law_values.ok (hr.mono (by decide)) (by rfl) C__law_values.g C__law_values.kp C__law_values.b .nil pass0 h) (da_cons (de_v 1 (pv 1)) (da_cons (de_v 2 (pv 2)) (da_cons de_int da_nil))))) (dg_name (pg_name (i := 4) sc__law_small.nd rfl (by first | exact .inl rfl | exact .inr rfl))))
    (dss_cons (ds_asg (de_meth (fun ho h => pe_meth ho C_Need_m_rounds_to_afford.c C_Need_m_rounds_to_afford.m C_Need_m_rounds_to_afford.ok hr C_Need_m_rounds_to_afford.b .nil pass0 h) (de_v 0 (pv 0)) (da_cons (de_v 2 (pv 2)) (da_cons (de_v 3 (pv 3)) da_nil))) (dg_name (pg_name (i := 5) sc__law_small.nd rfl (by first | exact .inl rfl | exact .inr rfl))))
    (dss_cons (ds_asg (de_meth (fun ho h => pe_meth ho C_Need_m_rounds_to_exceed.c C_Need_m_rounds_to_exceed.m C_Need_m_rounds_to_exceed.ok hr C_Need_m_rounds_to_exceed.b .nil pass0 h) (de_v 0 (pv 0)) (da_cons (de_v 2 (pv 2)) (da_cons (de_v 3 (pv 3)) da_nil))) (dg_name (pg_name (i := 6) sc__law_small.nd rfl (by first | exact .inl rfl | exact .inr rfl))))
    (dss_cons (ds_if (DW.pt (dw_or (dt_not (dt_tru (de_o (do_callP (fun h => pe_call C__law_count_right.ok (hr.mono (by decide)) (by rfl) C__law_count_right.g C__law_count_right.kp C__law_count_right.b .nil pass0 h) (da_cons (de_v 5 (pv 5)) (da_cons (de_v 4 (pv 4)) (da_cons (de_v 3 (pv 3)) (da_cons de_bl da_nil)))))))) (dw_or1 (dt_not (dt_tru (de_o (do_callP (fun h => pe_call C__law_count_right.ok (hr.mono (by decide)) (by rfl) C__law_count_right.g C__law_count_right.kp C__law_count_right.b .nil pass0 h) (da_cons (de_v 6 (pv 6)) (da_cons (de_v 4 (pv 4)) (da_cons (de_v 3 (pv 3)) (da_cons de_bl da_nil)))))))))))
    (dss_one (ds_ret de_bl))
    dss_nil)
    (dss_cons (ds_if (DW.pt (dw_and (dt_cmp op_notN os_notN (de_v 5 (pv 5)) de_non (nomark _)) (dw_and (dt_cmp op_gt os_gt (de_v 5 (pv 5)) de_int (nomark _)) (dw_and1 (dt_tru (de_o (do_callP (fun h => pe_call C__law_stuck.ok (hr.mono (by decide)) (by rfl) C__law_stuck.g C__law_stuck.kp C__law_stuck.b .nil pass0 h) (da_cons (de_v 4 (pv 4)) (da_cons (de_v 3 (pv 3)) (da_cons de_bl da_nil))))))))))
    (dss_one (ds_ret de_bl))
    dss_nil)
    (dss_one (ds_ret (de_or (de_cmp op_isN os_isN (de_v 6 (pv 6)) de_non (nomark _)) (de_or (de_cmp op_le os_le (de_v 6 (pv 6)) de_int (nomark _)) (de_one (de_not (de_o (do_callP (fun h => pe_call C__law_stuck.ok (hr.mono (by decide)) (by rfl) C__law_stuck.g C__law_stuck.kp C__law_stuck.b .nil pass0 h) (da_cons (de_v 4 (pv 4)) (da_cons (de_v 3 (pv 3)) (da_cons de_bl da_nil)))))))))))))))), fun ds QD h => ?_⟩)
  · first
      | (obtain ⟨rfl, _⟩ := h; exact ⟨rfl, rfl⟩)
      | (obtain ⟨_, rfl, _⟩ := h; exact ⟨rfl, rfl⟩)
      | (obtain ⟨_, _, rfl, _⟩ := h; exact ⟨rfl, rfl⟩)
      | (obtain ⟨_, _, _, rfl, _⟩ := h; exact ⟨rfl, rfl⟩)
      | (obtain ⟨_, _, _, _, rfl, _⟩ := h; exact ⟨rfl, rfl⟩)
      | (obtain ⟨_, _, _, _, _, rfl, _⟩ := h; exact ⟨rfl, rfl⟩)
      | (obtain ⟨_, _, _, _, _, _, rfl, _⟩ := h; exact ⟨rfl, rfl⟩)
      | (obtain ⟨_, _, _, _, _, _, _, rfl, _⟩ := h; exact ⟨rfl, rfl⟩)
      | (obtain ⟨_, _, _, _, _, _, _, _, rfl, _⟩ := h; exact ⟨rfl, rfl⟩)
      | (obtain ⟨_, _, _, _, _, _, _, _, _, rfl, _⟩ := h; exact ⟨rfl, rfl⟩)
      | (obtain ⟨_, _, _, _, _, _, _, _, _, _, rfl, _⟩ := h; exact ⟨rfl, rfl⟩)
      | (obtain ⟨_, _, _, _, _, _, _, _, _, _, _, rfl, _⟩ := h; exact ⟨rfl, rfl⟩)
  · obtain ⟨n, k, p, rfl, ok, sz, hk, hp, hp2, q⟩ := h
    have mo := mono_n ok
    have h60 : atI ((itL n k 61).map oI) (-1) = some (oI (RM.it (nval n) 60 k)) := atI_m1 (by rw [List.length_map, itL_len, List.getElem?_map, itL_get (by decide)]; rfl)
    have h59 : atI ((itL n k 61).map oI) (-2) = some (oI (RM.it (nval n) 59 k)) := by
      unfold atI
      rw [List.length_map, itL_len, show ixN 61 (-2) = some 59 by decide +kernel]
      show ((itL n k 61).map oI)[59]? = _
      rw [List.getElem?_map, itL_get (by decide)]; rfl
    walk_at "au"
    refine ⟨n, k, 60, rfl, by decide, ?_⟩
    walk_at "au"
    refine ⟨n, k, p, rfl, ok, sz, hk, hp, hp2, fun down hd => ?_⟩
    walk_at "au"
    refine ⟨n, k, p, rfl, ok, sz, hk, hp, hp2, fun up hu => ?_⟩
    walk_at "au"
    refine ⟨down, itL n k 61, p, false, rfl, by rw [itL_len]; decide, ⟨_, hd, fun j x hx => by obtain ⟨_, rfl⟩ := itL_get' hx; rw [← affB_iff]; simp⟩, ?_⟩
    walk_at "au"
    refine ⟨up, itL n k 61, p, true, rfl, by rw [itL_len]; decide, ⟨_, hu, fun j x hx => by obtain ⟨_, rfl⟩ := itL_get' hx; show ¬ RM.Aff p _ ↔ _; rw [← affB_iff]⟩, ?_⟩
    cases down with
    | none =>
      cases up with
      | none => walk_at "au"; exact q
      | some up =>
        walk_at "au"
        · exact q
        · obtain ⟨hne, hx⟩ := RM.stuck_e (i := 59) mo hu (by show (59 : Int) + 1 < up; omega)
          refine ⟨itL n k 61, k, _, _, p, true, rfl, itL_get (j := 0) (by decide), h60, h59, hne, (fun _ => hx), (fun e => by cases e), ?_⟩
          walk_at "au"
          exact q
    | some down =>
      have ha := fun h => RM.stuck_a (i := 59) mo hd (show (59 : Int) + 1 < down from h)
      cases up with
      | none =>
        walk_at "au"
        · obtain ⟨hne, hx⟩ := ha (by omega)
          refine ⟨itL n k 61, k, _, _, p, false, rfl, itL_get (j := 0) (by decide), h60, h59, hne, (fun e => by cases e), (fun _ => hx), ?_⟩
          walk_at "au"
          exact q
        · exact q
      | some up =>
        have he := fun h => RM.stuck_e (i := 59) mo hu (show (59 : Int) + 1 < up from h)
        walk_at "au"
        · obtain ⟨hne, hx⟩ := ha (by omega)
          refine ⟨itL n k 61, k, _, _, p, false, rfl, itL_get (j := 0) (by decide), h60, h59, hne, (fun e => by cases e), (fun _ => hx), ?_⟩
          walk_at "au"
          · exact q
          · obtain ⟨hne, hx⟩ := he (by omega)
            refine ⟨itL n k 61, k, _, _, p, true, rfl, itL_get (j := 0) (by decide), h60, h59, hne, (fun _ => hx), (fun e => by cases e), ?_⟩
            walk_at "au"
            exact q
        · exact q
        · obtain ⟨hne, hx⟩ := he (by omega)
          refine ⟨itL n k 61, k, _, _, p, true, rfl, itL_get (j := 0) (by decide), h60, h59, hne, (fun _ => hx), (fun e => by cases e), ?_⟩
          walk_at "au"
          exact q
/-! ### _law_extremes -/
abbrev s__law_extremes : Stmt := topS 38
theorem sc__law_extremes : FnScope ["f", "need", "k", "limit", "values", "least", "most", "value"] ["f", "need", "k", "limit"] (defScope s__law_extremes) := ⟨rfl, rfl, rfl, by decide +kernel, rfl, by decide +kernel, by decide +kernel⟩
def fs__law_extremes (cNeed : Addr) : FSp := fun ds Q => ∃ (n : Nd) (k : Option Int) (L : Nat), ds = [.sh (ndP cNeed n), .sh (needL n), .sh (oI k), .sh (.int (L : Int))] ∧ NOk n ∧ Sz n ∧ KIn k ∧ L ≤ 40 ∧ Q (.sh (.bl true)) ds
theorem ok__law_extremes {Pg : Program} {w : World} {K : PySem.W.Frag} {mg : Str → Option Value} {base : Heap} {a : Addr} {fd : FuncData} (F : L2.Fun K "_law_extremes" "_law_extremes" s__law_extremes a fd)
    {cNeed : Addr} (T : Txt K mg cNeed)
    {a__law_values : Addr} {d__law_values : FuncData} (C__law_values : Callee Pg w K mg base 2 "_law_values" a__law_values d__law_values ["need", "k", "many"] (fs__law_values cNeed))
    {a__law_at_most : Addr} {d__law_at_most : FuncData} (C__law_at_most : Callee Pg w K mg base 1 "_law_at_most" a__law_at_most d__law_at_most ["a", "b"] (fs__law_at_most cNeed))
    {a__law_same : Addr} {d__law_same : FuncData} (C__law_same : Callee Pg w K mg base 1 "_law_same" a__law_same d__law_same ["told", "due"] (fs__law_same cNeed))
    {a_Need_m_lowest : Addr} {d_Need_m_lowest : FuncData} (C_Need_m_lowest : CalleeM Pg w K mg base 6 cNeed "lowest" a_Need_m_lowest d_Need_m_lowest ["self", "needed", "limit"] (fs_Need_m_lowest cNeed))
    {a_Need_m_highest : Addr} {d_Need_m_highest : FuncData} (C_Need_m_highest : CalleeM Pg w K mg base 6 cNeed "highest" a_Need_m_highest d_Need_m_highest ["self", "needed", "limit"] (fs_Need_m_highest cNeed)) :
    FnOk Pg w K mg base CX0 7 a fd ["f", "need", "k", "limit"] (spD K (fs__law_extremes cNeed)) := by
  have n_Need_start : ClsA K cNeed "start" := ⟨T.cl_Need, T.n_Need_start⟩
  have n_Need_rises : ClsA K cNeed "rises" := ⟨T.cl_Need, T.n_Need_rises⟩
  have n_Need_never : ClsA K cNeed "never" := ⟨T.cl_Need, T.n_Need_never⟩
  have n_Need__values : ClsA K cNeed "_values" := ⟨T.cl_Need, T.n_Need__values⟩
  have is_Need := T.is_Need
  refine Fun.okD [] F sc__law_extremes (fun ds QD h => ?_) (fun cdv A outer s H E hr => ⟨_, _, (dss_cons (ds_asg (de_o (do_callP (fun h => pe_call C__law_values.ok (hr.mono (by decide)) (by rfl) C__law_values.g C__law_values.kp C__law_values.b .nil pass0 h) (da_cons (de_v 1 (pv 1)) (da_cons (de_v 2 (pv 2)) (da_cons (de_v 3 (pv 3)) da_nil))))) (dg_name (pg_name (i := 4) sc__law_extremes.nd rfl (by first | exact .inl rfl | exact .inr rfl))))
    (dss_cons (ds_asg (de_ix ix_seq os_ix (de_v 4 (pv 4)) de_int) (dg_name (pg_name (i := 5) sc__law_extremes.nd rfl (by first | exact .inl rfl | exact .inr rfl))))
    (dss_cons (ds_asg (de_ix ix_seq os_ix (de_v 4 (pv 4)) de_int) (dg_name (pg_name (i := 6) sc__law_extremes.nd rfl (by first | exact .inl rfl | exact .inr rfl))))
    (dss_cons (ds_for PassesOwn.never rfl (di_seq (de_v 4 (pv 4))) (dg_name (pg_name (i := 7) sc__law_extremes.nd rfl (by first | exact .inl rfl | exact .inr rfl)))
    (dss_cons (ds_if (dt_tru (de_o (do_callP (fun h => pe_call C__law_at_most.ok (hr.mono (by decide)) (by rfl) C__law_at_most.g C__law_at_most.kp C__law_at_most.b .nil pass0 h) (da_cons (de_v 7 (pv 7)) (da_cons (de_v 5 (pv 5)) da_nil)))))
    (dss_one (ds_asg (de_v 7 (pv 7)) (dg_name (pg_name (i := 5) sc__law_extremes.nd rfl (by first | exact .inl rfl | exact .inr rfl)))))
    dss_nil)
    (dss_one (ds_if (dt_tru (de_o (do_callP (fun h => pe_call C__law_at_most.ok (hr.mono (by decide)) (by rfl) C__law_at_most.g C__law_at_most.kp C__law_at_most.b .nil pass0 h) (da_cons (de_v 6 (pv 6)) (da_cons (de_v 7 (pv 7)) da_nil)))))
    (dss_one (ds_asg (de_v 7 (pv 7)) (dg_name (pg_name (i := 6) sc__law_extremes.nd rfl (by first | exact .inl rfl | exact .inr rfl)))))
    dss_nil))))
    (dss_one (ds_ret (de_and (de_o (do_callP (fun h => pe_call C__law_same.ok (hr.mono (by decide)) (by rfl) C__law_same.g C__law_same.kp C__law_same.b .nil pass0 h) (da_cons (de_meth (fun ho h => pe_meth ho C_Need_m_lowest.c C_Need_m_lowest.m C_Need_m_lowest.ok hr C_Need_m_lowest.b .nil pass0 h) (de_v 0 (pv 0)) (da_cons (de_v 2 (pv 2)) (da_cons (de_v 3 (pv 3)) da_nil))) (da_cons (de_v 5 (pv 5)) da_nil)))) (de_one (de_o (do_callP (fun h => pe_call C__law_same.ok (hr.mono (by decide)) (by rfl) C__law_same.g C__law_same.kp C__law_same.b .nil pass0 h) (da_cons (de_meth (fun ho h => pe_meth ho C_Need_m_highest.c C_Need_m_highest.m C_Need_m_highest.ok hr C_Need_m_highest.b .nil pass0 h) (de_v 0 (pv 0)) (da_cons (de_v 2 (pv 2)) (da_cons (de_v 3 (pv 3)) da_nil))) (da_cons (de_v 6 (pv 6)) da_nil)))))))))))), fun ds QD h => ?_⟩)
  · first
      | (obtain ⟨rfl, _⟩ := h; exact ⟨rfl, rfl⟩)
      | (obtain ⟨_, rfl, _⟩ := h; exact ⟨rfl, rfl⟩)
      | (obtain ⟨_, _, rfl, _⟩ := h; exact ⟨rfl, rfl⟩)
      | (obtain ⟨_, _, _, rfl, _⟩ := h; exact ⟨rfl, rfl⟩)
      | (obtain ⟨_, _, _, _, rfl, _⟩ := h; exact ⟨rfl, rfl⟩)
      | (obtain ⟨_, _, _, _, _, rfl, _⟩ := h; exact ⟨rfl, rfl⟩)
      | (obtain ⟨_, _, _, _, _, _, rfl, _⟩ := h; exact ⟨rfl, rfl⟩)
      | (obtain ⟨_, _, _, _, _, _, _, rfl, _⟩ := h; exact ⟨rfl, rfl⟩)
      | (obtain ⟨_, _, _, _, _, _, _, _, rfl, _⟩ := h; exact ⟨rfl, rfl⟩)
      | (obtain ⟨_, _, _, _, _, _, _, _, _, rfl, _⟩ := h; exact ⟨rfl, rfl⟩)
      | (obtain ⟨_, _, _, _, _, _, _, _, _, _, rfl, _⟩ := h; exact ⟨rfl, rfl⟩)
      | (obtain ⟨_, _, _, _, _, _, _, _, _, _, _, rfl, _⟩ := h; exact ⟨rfl, rfl⟩)
  · obtain ⟨n, k, L, rfl, ok, sz, hk, hL, q⟩ := h
    have mo := mono_n ok
    have el : ((itL n k (L + 1)).map oI).length = L + 1 := by rw [List.length_map, itL_len]
    have h0 : atI ((itL n k (L + 1)).map oI) 0 = some (oI k) := atI_0 (by rw [List.getElem?_map, itL_get (by omega)]; rfl)
    walk_at "au"
    refine ⟨n, k, L, rfl, by omega, ?_⟩
    walk_at "au"
    refine ⟨oI k, h0, ?_⟩
    walk_at "au"
    refine ⟨oI k, h0, ?_⟩
    walk_at "au"
    refine ⟨fun i env => ∃ a b v, env = [some (.sh (ndP cNeed n)), some (.sh (needL n)), some (.sh (oI k)), some (.sh (.int (L : Int))), some (.sh (.lst ((itL n k (L + 1)).map oI))), some (.sh (oI a)), some (.sh (oI b)), v] ∧ (∃ j, j ≤ L ∧ a = RM.it (nval n) j k) ∧ (∀ j, j < i → RM.le a (RM.it (nval n) j k)) ∧ (∃ j, j ≤ L ∧ b = RM.it (nval n) j k) ∧ (∀ j, j < i → RM.le (RM.it (nval n) j k) b), ⟨k, k, none, rfl, ⟨0, by omega, rfl⟩, (fun j h => absurd h (Nat.not_lt_zero _)), ⟨0, by omega, rfl⟩, (fun j h => absurd h (Nat.not_lt_zero _))⟩, fun i p e hp hI => ?_, fun e hI => ?_⟩
    · obtain ⟨a, b, v, rfl, ha, hla, hb, hlb⟩ := hI
      obtain ⟨x, hx, rfl⟩ := map_get hp
      obtain ⟨hi, rfl⟩ := itL_get' hx
      have nlt : ∀ j, j < i + 1 → j < i ∨ j = i := fun j h => by omega
      walk_at "au"
      refine ⟨RM.it (nval n) i k, a, rfl, ?_⟩
      walk_at "au"
      · have hc : leB (RM.it (nval n) i k) a = true := by assumption
        have hc := (leB_iff _ _).mp hc
        have g1 : ∀ j, j < i + 1 → RM.le (RM.it (nval n) i k) (RM.it (nval n) j k) := fun j h => by
          rcases nlt j h with h | rfl
          · exact RM.le_trans hc (hla j h)
          · exact RM.le_refl _
        refine ⟨b, RM.it (nval n) i k, rfl, ?_⟩
        walk_at "au"
        · rename_i hc2
          have hc2 := (leB_iff _ _).mp hc2
          exact ⟨_, _, _, rfl, ⟨i, by omega, rfl⟩, g1, ⟨i, by omega, rfl⟩, fun j h => by
            rcases nlt j h with h | rfl
            · exact RM.le_trans (hlb j h) hc2
            · exact RM.le_refl _⟩
        · rename_i hc2
          have hc2 := leB_ff hc2
          exact ⟨_, _, _, rfl, ⟨i, by omega, rfl⟩, g1, hb, fun j h => by
            rcases nlt j h with h | rfl
            · exact hlb j h
            · exact hc2⟩
      · have hc : leB (RM.it (nval n) i k) a = false := by assumption
        have hc := leB_ff hc
        have g1 : ∀ j, j < i + 1 → RM.le a (RM.it (nval n) j k) := fun j h => by
          rcases nlt j h with h | rfl
          · exact hla j h
          · exact hc
        refine ⟨b, RM.it (nval n) i k, rfl, ?_⟩
        walk_at "au"
        · rename_i hc2
          have hc2 := (leB_iff _ _).mp hc2
          exact ⟨_, _, _, rfl, ha, g1, ⟨i, by omega, rfl⟩, fun j h => by
            rcases nlt j h with h | rfl
            · exact RM.le_trans (hlb j h) hc2
            · exact RM.le_refl _⟩
        · rename_i hc2
          have hc2 := leB_ff hc2
          exact ⟨_, _, _, rfl, ha, g1, hb, fun j h => by
            rcases nlt j h with h | rfl
            · exact hlb j h
            · exact hc2⟩
    · obtain ⟨a, b, v, rfl, ha, hla, hb, hlb⟩ := hI
      rw [el] at hla hlb
      have ea := RM.low_end mo L ha (fun j h => hla j (by omega)) (minO_or k (RM.it (nval n) L k)) (minO_l _ _) (minO_r _ _)
      have eb := RM.high_end mo L hb (fun j h => hlb j (by omega)) (maxO_or k (RM.it (nval n) L k)) (maxO_l _ _) (maxO_r _ _)
      walk_at "au"
      refine ⟨n, k, L, rfl, ok, sz, hk, by omega, by omega, ?_⟩
      rw [Int.toNat_natCast, ← ea]
      walk_at "au"
      refine ⟨a, rfl, ?_⟩
      walk_at "au"
      refine ⟨n, k, L, rfl, ok, sz, hk, by omega, by omega, ?_⟩
      rw [Int.toNat_natCast, ← eb]
      walk_at "au"
      refine ⟨b, rfl, ?_⟩
      walk_at "au"
      exact q
/-! ### _law_constant -/
abbrev s__law_constant : Stmt := topS 39
theorem sc__law_constant : FnScope ["step", "edge", "needed", "purse", "limit", "up", "down", "grown", "affords"] ["step", "edge", "needed", "purse", "limit"] (defScope s__law_constant) := ⟨rfl, rfl, rfl, by decide +kernel, rfl, by decide +kernel, by decide +kernel⟩
def fs__law_constant (cNeed : Addr) : FSp := fun ds Q => ∃ (step e k p L : Int), ds = [.sh (.int step), .sh (.int e), .sh (.int k), .sh (.int p), .sh (.int L)] ∧ CB step e k p L ∧ Q (.sh (.bl true)) ds
theorem ok__law_constant {Pg : Program} {w : World} {K : PySem.W.Frag} {mg : Str → Option Value} {base : Heap} {a : Addr} {fd : FuncData} (F : L2.Fun K "_law_constant" "_law_constant" s__law_constant a fd)
    (m_int : mg "int" = none)
    (m_min : mg "min" = none)
    (m_max : mg "max" = none)
    {cNeed : Addr} (T : Txt K mg cNeed)
    {a_Need_m___init__ : Addr} {d_Need_m___init__ : FuncData} (C_Need_m___init__ : CalleeC Pg w K mg base 3 "Need" cNeed a_Need_m___init__ d_Need_m___init__ ["self", "start", "rises", "never"] (fs_Need_m___init__ cNeed))
    {a__law_same : Addr} {d__law_same : FuncData} (C__law_same : Callee Pg w K mg base 1 "_law_same" a__law_same d__law_same ["told", "due"] (fs__law_same cNeed))
    {a_Need_m_rounds_to_exceed : Addr} {d_Need_m_rounds_to_exceed : FuncData} (C_Need_m_rounds_to_exceed : CalleeM Pg w K mg base 5 cNeed "rounds_to_exceed" a_Need_m_rounds_to_exceed d_Need_m_rounds_to_exceed ["self", "needed", "purse"] (fs_Need_m_rounds_to_exceed cNeed))
    {a_Need_m_rounds_to_afford : Addr} {d_Need_m_rounds_to_afford : FuncData} (C_Need_m_rounds_to_afford : CalleeM Pg w K mg base 5 cNeed "rounds_to_afford" a_Need_m_rounds_to_afford d_Need_m_rounds_to_afford ["self", "needed", "purse"] (fs_Need_m_rounds_to_afford cNeed))
    {a_Need_m_highest : Addr} {d_Need_m_highest : FuncData} (C_Need_m_highest : CalleeM Pg w K mg base 6 cNeed "highest" a_Need_m_highest d_Need_m_highest ["self", "needed", "limit"] (fs_Need_m_highest cNeed))
    {a_Need_m_lowest : Addr} {d_Need_m_lowest : FuncData} (C_Need_m_lowest : CalleeM Pg w K mg base 6 cNeed "lowest" a_Need_m_lowest d_Need_m_lowest ["self", "needed", "limit"] (fs_Need_m_lowest cNeed)) :
    FnOk Pg w K mg base CX0 7 a fd ["step", "edge", "needed", "purse", "limit"] (spD K (fs__law_constant cNeed)) := by
  have n_Need_start : ClsA K cNeed "start" := ⟨T.cl_Need, T.n_Need_start⟩
  have n_Need_rises : ClsA K cNeed "rises" := ⟨T.cl_Need, T.n_Need_rises⟩
  have n_Need_never : ClsA K cNeed "never" := ⟨T.cl_Need, T.n_Need_never⟩
  have n_Need__values : ClsA K cNeed "_values" := ⟨T.cl_Need, T.n_Need__values⟩
  have is_Need := T.is_Need
  refine Fun.okD [] F sc__law_constant (fun ds QD h => ?_) (fun cdv A outer s H E hr => ⟨_, _, (dss_cons (ds_asg (de_make (fun h => pe_make C_Need_m___init__.m C_Need_m___init__.ok (hr.mono (by decide)) (by rfl) C_Need_m___init__.g C_Need_m___init__.b .nil pass0 h) (da_cons (de_v 0 (pv 0)) (da_cons (de_tup (da_cons (de_tup (da_cons de_int (da_cons de_non da_nil))) da_nil)) (da_cons de_non da_nil)))) (dg_name (pg_name (i := 5) sc__law_constant.nd rfl (by first | exact .inl rfl | exact .inr rfl))))
    (dss_cons (ds_asg (de_make (fun h => pe_make C_Need_m___init__.m C_Need_m___init__.ok (hr.mono (by decide)) (by rfl) C_Need_m___init__.g C_Need_m___init__.b .nil pass0 h) (da_cons (de_v 1 (pv 1)) (da_cons (de_tup (da_cons (de_tup (da_cons (de_op op_add os_add (de_v 1 (pv 1)) (de_v 0 (pv 0))) (da_cons de_non da_nil))) da_nil)) (da_cons de_non da_nil)))) (dg_name (pg_name (i := 6) sc__law_constant.nd rfl (by first | exact .inl rfl | exact .inr rfl))))
    (dss_cons (ds_asg de_non (dg_name (pg_name (i := 7) sc__law_constant.nd rfl (by first | exact .inl rfl | exact .inr rfl))))
    (dss_mid (ds_if (dt_cmp op_gt os_gt (de_v 2 (pv 2)) (de_v 3 (pv 3)) (nomark _))
    (dss_one (ds_asg de_int (dg_name (pg_name (i := 7) sc__law_constant.nd rfl (by first | exact .inl rfl | exact .inr rfl)))))
    (dss_one (ds_asg (de_op op_add os_add (de_op op_fdivW os_div (de_op op_sub os_sub (de_v 3 (pv 3)) (de_v 2 (pv 2))) (de_v 0 (pv 0))) de_int) (dg_name (pg_name (i := 7) sc__law_constant.nd rfl (by first | exact .inl rfl | exact .inr rfl))))))
    (dss_cons (ds_if (dt_not (dt_tru (de_o (do_callP (fun h => pe_call C__law_same.ok (hr.mono (by decide)) (by rfl) C__law_same.g C__law_same.kp C__law_same.b .nil pass0 h) (da_cons (de_meth (fun ho h => pe_meth ho C_Need_m_rounds_to_exceed.c C_Need_m_rounds_to_exceed.m C_Need_m_rounds_to_exceed.ok (hr.mono (by decide)) C_Need_m_rounds_to_exceed.b .nil pass0 h) (de_v 5 (pv 5)) (da_cons (de_v 2 (pv 2)) (da_cons (de_v 3 (pv 3)) da_nil))) (da_cons (de_v 7 (pv 7)) da_nil))))))
    (dss_one (ds_ret de_bl))
    dss_nil)
    (dss_cons (ds_asg de_non (dg_name (pg_name (i := 8) sc__law_constant.nd rfl (by first | exact .inl rfl | exact .inr rfl))))
    (dss_mid (ds_if (dt_cmp op_gt os_gt (de_v 2 (pv 2)) (de_v 3 (pv 3)) (nomark _))
    (dss_cons (ds_asg (de_op op_sub os_sub de_int (de_op op_fdivW os_div (de_op op_sub os_sub (de_v 3 (pv 3)) (de_v 2 (pv 2))) (de_v 0 (pv 0)))) (dg_name (pg_name (i := 8) sc__law_constant.nd rfl (by first | exact .inl rfl | exact .inr rfl))))
    (dss_one (ds_if (dt_cmp op_lt os_lt (de_v 3 (pv 3)) (de_v 1 (pv 1)) (nomark _))
    (dss_one (ds_asg de_non (dg_name (pg_name (i := 8) sc__law_constant.nd rfl (by first | exact .inl rfl | exact .inr rfl)))))
    dss_nil)))
    (dss_one (ds_asg de_int (dg_name (pg_name (i := 8) sc__law_constant.nd rfl (by first | exact .inl rfl | exact .inr rfl))))))
    (dss_cons (ds_if (dt_not (dt_tru (de_o (do_callP (fun h => pe_call C__law_same.ok (hr.mono (by decide)) (by rfl) C__law_same.g C__law_same.kp C__law_same.b .nil pass0 h) (da_cons (de_meth (fun ho h => pe_meth ho C_Need_m_rounds_to_afford.c C_Need_m_rounds_to_afford.m C_Need_m_rounds_to_afford.ok (hr.mono (by decide)) C_Need_m_rounds_to_afford.b .nil pass0 h) (de_v 6 (pv 6)) (da_cons (de_v 2 (pv 2)) (da_cons (de_v 3 (pv 3)) da_nil))) (da_cons (de_v 8 (pv 8)) da_nil))))))
    (dss_one (ds_ret de_bl))
    dss_nil)
    (dss_cons (ds_if (dt_not (dt_tru (de_o (do_callP (fun h => pe_call C__law_same.ok (hr.mono (by decide)) (by rfl) C__law_same.g C__law_same.kp C__law_same.b .nil pass0 h) (da_cons (de_meth (fun ho h => pe_meth ho C_Need_m_rounds_to_afford.c C_Need_m_rounds_to_afford.m C_Need_m_rounds_to_afford.ok (hr.mono (by decide)) C_Need_m_rounds_to_afford.b .nil pass0 h) (de_v 5 (pv 5)) (da_cons (de_v 2 (pv 2)) (da_cons (de_v 3 (pv 3)) da_nil))) (da_cons (de_ix ix_seq os_ix (de_o (do_lst (da_cons de_int (da_cons de_non da_nil)))) (de_cb (fun h => pe_callTy call_int1 (by rfl) m_int (by decide +kernel) h) cs_int (da_cons (de_cmp op_gt os_gt (de_v 2 (pv 2)) (de_v 3 (pv 3)) (nomark _)) da_nil))) da_nil))))))
    (dss_one (ds_ret de_bl))
    dss_nil)
    (dss_cons (ds_if (DW.pt (dw_or (dt_cmp op_ne os_ne (de_meth (fun ho h => pe_meth ho C_Need_m_highest.c C_Need_m_highest.m C_Need_m_highest.ok hr C_Need_m_highest.b .nil pass0 h) (de_v 5 (pv 5)) (da_cons (de_v 2 (pv 2)) (da_cons (de_v 4 (pv 4)) da_nil))) (de_op op_add os_add (de_v 2 (pv 2)) (de_op op_mulW os_mul (de_v 4 (pv 4)) (de_v 0 (pv 0)))) (nomark _)) (dw_or1 (dt_cmp (op_neD hr.units) os_neD (de_meth (fun ho h => pe_meth ho C_Need_m_lowest.c C_Need_m_lowest.m C_Need_m_lowest.ok hr C_Need_m_lowest.b .nil pass0 h) (de_v 5 (pv 5)) (da_cons (de_v 2 (pv 2)) (da_cons (de_v 4 (pv 4)) da_nil))) (de_v 2 (pv 2)) (nomark _)))))
    (dss_one (ds_ret de_bl))
    dss_nil)
    (dss_one (ds_ret (de_cmp (op_eqD hr.units) os_eqD (de_meth (fun ho h => pe_meth ho C_Need_m_lowest.c C_Need_m_lowest.m C_Need_m_lowest.ok hr C_Need_m_lowest.b .nil pass0 h) (de_v 6 (pv 6)) (da_cons (de_v 2 (pv 2)) (da_cons (de_v 4 (pv 4)) da_nil))) (de_cb (fun h => pe_callB (call_min2 rfl) (by rfl) m_min (by decide +kernel) h) cs_min2 (da_cons (de_v 2 (pv 2)) (da_cons (de_cb (fun h => pe_callB (call_max2 rfl) (by rfl) m_max (by decide +kernel) h) cs_max2 (da_cons (de_v 1 (pv 1)) (da_cons (de_op op_sub os_sub (de_v 2 (pv 2)) (de_op op_mulW os_mul (de_v 4 (pv 4)) (de_v 0 (pv 0)))) da_nil))) da_nil))) (nomark _)))))))))))))), fun ds QD h => ?_⟩)
  · first
      | (obtain ⟨rfl, _⟩ := h; exact ⟨rfl, rfl⟩)
      | (obtain ⟨_, rfl, _⟩ := h; exact ⟨rfl, rfl⟩)
      | (obtain ⟨_, _, rfl, _⟩ := h; exact ⟨rfl, rfl⟩)
      | (obtain ⟨_, _, _, rfl, _⟩ := h; exact ⟨rfl, rfl⟩)
      | (obtain ⟨_, _, _, _, rfl, _⟩ := h; exact ⟨rfl, rfl⟩)
      | (obtain ⟨_, _, _, _, _, rfl, _⟩ := h; exact ⟨rfl, rfl⟩)
      | (obtain ⟨_, _, _, _, _, _, rfl, _⟩ := h; exact ⟨rfl, rfl⟩)
      | (obtain ⟨_, _, _, _, _, _, _, rfl, _⟩ := h; exact ⟨rfl, rfl⟩)
      | (obtain ⟨_, _, _, _, _, _, _, _, rfl, _⟩ := h; exact ⟨rfl, rfl⟩)
      | (obtain ⟨_, _, _, _, _, _, _, _, _, rfl, _⟩ := h; exact ⟨rfl, rfl⟩)
      | (obtain ⟨_, _, _, _, _, _, _, _, _, _, rfl, _⟩ := h; exact ⟨rfl, rfl⟩)
      | (obtain ⟨_, _, _, _, _, _, _, _, _, _, _, rfl, _⟩ := h; exact ⟨rfl, rfl⟩)
  · obtain ⟨step, e, k, p, L, rfl, cb, q⟩ := h
    obtain ⟨s1, s2, e0, ee, k0, k1, p0, p1, l0, l1⟩ := cb
    have ou := cUp_ok (step := step) (by omega)
    have od := cDn_ok (step := step) (e := e) e0 (by omega)
    have ru := cUp_rise s1
    have szu : Sz (cUp step) := ⟨fun s h => by cases h; omega, fun v h => by cases h⟩
    have szd : Sz (cDn step e) := ⟨fun s h => by cases h; omega, fun v h => by cases h⟩
    have kk := kin k0 k1
    walk_at "ax"
    refine ⟨true, cUp step, rfl, ou, ?_⟩
    walk_at "ax"
    refine ⟨true, cDn step e, rfl, od, ?_⟩
    walk_at "ax"
    refine ⟨fun env => ∃ g, env = [some (.sh (.int step)), some (.sh (.int e)), some (.sh (.int k)), some (.sh (.int p)), some (.sh (.int L)), some (.sh (ndP cNeed (cUp step))), some (.sh (ndP cNeed (cDn step e))), some (.sh (oI g)), none] ∧ RM.Least (fun j => RM.Exc p (RM.it (nval (cUp step)) j (some k))) g, ?_, ?_⟩
    · walk_at "ax"
      · exact ⟨some 0, rfl, (RM.Wk.zero _).done (exc_some.mpr (by assumption))⟩
      · exact ⟨some _, rfl, ru.least k0 (by omega)⟩
    rintro _ ⟨g, rfl, hg⟩
    walk_at "ax"
    refine ⟨cUp step, some k, p, rfl, ou, szu, kk, p0, by omega, fun r hr => ?_⟩
    cases hr.uniq hg
    walk_at "ax"
    refine ⟨g, rfl, ?_⟩
    walk_at "ax"
    clear hr
    refine ⟨fun env => ∃ a, env = [some (.sh (.int step)), some (.sh (.int e)), some (.sh (.int k)), some (.sh (.int p)), some (.sh (.int L)), some (.sh (ndP cNeed (cUp step))), some (.sh (ndP cNeed (cDn step e))), some (.sh (oI g)), some (.sh (oI a))] ∧ RM.Least (fun j => RM.Aff p (RM.it (nval (cDn step e)) j (some k))) a, ?_, ?_⟩
    · walk_at "ax"
      · exact ⟨none, rfl, (cDn_fall (E := if k < e then e else k) s1 (by split <;> omega)).never e0 k0 (by split <;> omega) (by assumption) (by assumption)⟩
      · exact ⟨some _, rfl, (cDn_fall (E := if k < e then e else k) s1 (by split <;> omega)).least e0 (by split <;> omega) (by assumption) (by omega) (.zero _)⟩
      · exact ⟨some 0, rfl, (RM.Wk.zero _).done (by show k ≤ p; omega)⟩
    rintro _ ⟨a, rfl, ha⟩
    walk_at "ax"
    refine ⟨cDn step e, some k, p, rfl, od, szd, kk, p0, by omega, fun t ht => ?_⟩
    cases ht.uniq ha
    walk_at "ax"
    refine ⟨a, rfl, ?_⟩
    walk_at "ax"
    clear ht
    refine ⟨cUp step, some k, p, rfl, ou, szu, kk, p0, by omega, fun t2 ht => ?_⟩
    walk_at "ax"
    have e2 : t2 = if p < k then none else some 0 := by
      by_cases h : p < k
      · rw [if_pos h]; exact ht.uniq (ru.never k0 h)
      · rw [if_neg h]; exact ht.uniq ((RM.Wk.zero _).done (by show k ≤ p; omega))
    refine ⟨oI t2, ?_, ?_⟩
    · rw [e2]
      by_cases h : p < k
      · rw [if_pos h, decide_eq_true h]; rfl
      · rw [if_neg h, decide_eq_false h]; rfl
    clear e2 ht
    walk_at "ax"
    refine ⟨t2, rfl, ?_⟩
    walk_at "ax"
    have hls : 0 ≤ L * step := Int.mul_nonneg l0 (by omega)
    refine ⟨cUp step, some k, L, rfl, ou, szu, kk, l0, l1, ?_⟩
    have eL : (L.toNat : Int) = L := by omega
    have e3 : RM.it (nval (cUp step)) L.toNat (some k) = some (k + L * step) := by rw [ru.it k0 L.toNat, eL]
    have e4 : maxO (some k) (RM.it (nval (cUp step)) L.toNat (some k)) = some (k + L * step) := by
      rw [e3]
      show (if decide (k > k + L * step) = true then _ else _) = _
      rw [if_neg (by rw [decide_eq_true_iff]; omega)]
    rw [e4]
    walk_at "ax"
    refine ⟨cmul_of 200 200 ⟨by omega, by omega⟩ ⟨by omega, by omega⟩, ?_⟩
    walk_at "ax"
    · exact absurd trivial (by assumption)
    refine ⟨cUp step, some k, L, rfl, ou, szu, kk, l0, l1, ?_⟩
    have e5 : minO (some k) (RM.it (nval (cUp step)) L.toNat (some k)) = some k := by
      rw [e3]
      show some (if k + L * step < k then _ else _) = _
      rw [if_neg (by omega)]
    rw [e5]
    walk_at "ax"
    · rename_i hc
      exact Bool.noConfusion (((shp_oI (some k)).refl).symm.trans hc)
    refine ⟨cDn step e, some k, L, rfl, od, szd, kk, l0, l1, ?_⟩
    have e6 : minO (some k) (RM.it (nval (cDn step e)) L.toNat (some k)) = some (if (if k - L * step > e then k - L * step else e) < k then (if k - L * step > e then k - L * step else e) else k) := by
      obtain ⟨m, hm⟩ : ∃ m, L.toNat = m := ⟨_, rfl⟩
      rw [hm]
      cases m with
      | zero =>
        have : L = 0 := by omega
        subst this
        show some (if k < k then k else k) = _
        congr 1
        rw [Int.zero_mul]
        split <;> split <;> (try split) <;> omega
      | succ m =>
        rw [(cDn_fall (E := if k < e then e else k) s1 (by split <;> omega)).it e0 k0 (by split <;> omega) m, show (m : Int) + 1 = L by omega]
        rfl
    rw [e6]
    walk_at "ax"
    refine ⟨cmul_of 200 200 ⟨by omega, by omega⟩ ⟨by omega, by omega⟩, ?_⟩
    walk_at "ax"
    rw [← (shp_oI (some (if (if k - L * step > e then k - L * step else e) < k then (if k - L * step > e then k - L * step else e) else k))).refl] at q
    exact q
/-! ### _law_paces -/
abbrev s__law_paces : Stmt := topS 44
theorem sc__law_paces : FnScope ["draws", "bend", "needed", "purse", "limit", "pace", "flat", "base", "up", "edge", "down"] ["draws", "bend", "needed", "purse", "limit"] (defScope s__law_paces) := ⟨rfl, rfl, rfl, by decide +kernel, rfl, by decide +kernel, by decide +kernel⟩
def fs__law_paces (cNeed : Addr) : FSp := fun ds Q => ∃ (rs : List Int) (b k p L : Int), ds = [.sh (.lst (pI rs)), .sh (.int b), .sh (.int k), .sh (.int p), .sh (.int L)] ∧ rs.length = 40 ∧ (∀ d ∈ rs, 0 ≤ d ∧ d < 1000000) ∧ 1 ≤ b ∧ b < 2 ^ 199 ∧ 0 ≤ k ∧ k < 2 ^ 200 ∧ 0 ≤ p ∧ p < 2 ^ 200 ∧ 0 ≤ L ∧ L < 2 ^ 200 ∧ Q (.sh (.bl true)) ds
theorem ok__law_paces {Pg : Program} {w : World} {K : PySem.W.Frag} {mg : Str → Option Value} {base : Heap} {a : Addr} {fd : FuncData} (F : L2.Fun K "_law_paces" "_law_paces" s__law_paces a fd)
    (m_int : mg "int" = none)
    {cNeed : Addr} (T : Txt K mg cNeed)
    {a_Need_m___init__ : Addr} {d_Need_m___init__ : FuncData} (C_Need_m___init__ : CalleeC Pg w K mg base 3 "Need" cNeed a_Need_m___init__ d_Need_m___init__ ["self", "start", "rises", "never"] (fs_Need_m___init__ cNeed))
    {a__law_same : Addr} {d__law_same : FuncData} (C__law_same : Callee Pg w K mg base 1 "_law_same" a__law_same d__law_same ["told", "due"] (fs__law_same cNeed))
    {a_Need_m_rounds_to_exceed : Addr} {d_Need_m_rounds_to_exceed : FuncData} (C_Need_m_rounds_to_exceed : CalleeM Pg w K mg base 5 cNeed "rounds_to_exceed" a_Need_m_rounds_to_exceed d_Need_m_rounds_to_exceed ["self", "needed", "purse"] (fs_Need_m_rounds_to_exceed cNeed))
    {a__law_up_count : Addr} {d__law_up_count : FuncData} (C__law_up_count : Callee Pg w K mg base 1 "_law_up_count" a__law_up_count d__law_up_count ["pace", "flat", "edge", "needed", "purse"] (fs__law_up_count cNeed))
    {a_Need_m_highest : Addr} {d_Need_m_highest : FuncData} (C_Need_m_highest : CalleeM Pg w K mg base 6 cNeed "highest" a_Need_m_highest d_Need_m_highest ["self", "needed", "limit"] (fs_Need_m_highest cNeed))
    {a__law_up_value : Addr} {d__law_up_value : FuncData} (C__law_up_value : Callee Pg w K mg base 1 "_law_up_value" a__law_up_value d__law_up_value ["pace", "flat", "edge", "needed", "limit"] (fs__law_up_value cNeed))
    {a_Need_m_rounds_to_afford : Addr} {d_Need_m_rounds_to_afford : FuncData} (C_Need_m_rounds_to_afford : CalleeM Pg w K mg base 5 cNeed "rounds_to_afford" a_Need_m_rounds_to_afford d_Need_m_rounds_to_afford ["self", "needed", "purse"] (fs_Need_m_rounds_to_afford cNeed))
    {a__law_down_count : Addr} {d__law_down_count : FuncData} (C__law_down_count : Callee Pg w K mg base 1 "_law_down_count" a__law_down_count d__law_down_count ["base", "pace", "flat", "edge", "needed", "purse"] (fs__law_down_count cNeed))
    {a_Need_m_lowest : Addr} {d_Need_m_lowest : FuncData} (C_Need_m_lowest : CalleeM Pg w K mg base 6 cNeed "lowest" a_Need_m_lowest d_Need_m_lowest ["self", "needed", "limit"] (fs_Need_m_lowest cNeed))
    {a__law_down_value : Addr} {d__law_down_value : FuncData} (C__law_down_value : Callee Pg w K mg base 1 "_law_down_value" a__law_down_value d__law_down_value ["base", "pace", "flat", "edge", "needed", "limit"] (fs__law_down_value cNeed)) :
    FnOk Pg w K mg base CX0 7 a fd ["draws", "bend", "needed", "purse", "limit"] (spD K (fs__law_paces cNeed)) := by
  have n_Need_start : ClsA K cNeed "start" := ⟨T.cl_Need, T.n_Need_start⟩
  have n_Need_rises : ClsA K cNeed "rises" := ⟨T.cl_Need, T.n_Need_rises⟩
  have n_Need_never : ClsA K cNeed "never" := ⟨T.cl_Need, T.n_Need_never⟩
  have n_Need__values : ClsA K cNeed "_values" := ⟨T.cl_Need, T.n_Need__values⟩
  have is_Need := T.is_Need
  refine Fun.okD [] F sc__law_paces (fun ds QD h => ?_) (fun cdv A outer s H E hr => ⟨_, _, (dss_cons (ds_asg (de_op op_add os_add de_int (de_op op_mod os_mod (de_cb (fun h => pe_callTy call_int1 (by rfl) m_int (by decide +kernel) h) cs_int (da_cons (de_ix ix_seq os_ix (de_v 0 (pv 0)) de_int) da_nil)) de_int)) (dg_name (pg_name (i := 5) sc__law_paces.nd rfl (by first | exact .inl rfl | exact .inr rfl))))
    (dss_cons (ds_asg (de_op op_add os_add de_int (de_op op_mod os_mod (de_cb (fun h => pe_callTy call_int1 (by rfl) m_int (by decide +kernel) h) cs_int (da_cons (de_ix ix_seq os_ix (de_v 0 (pv 0)) de_int) da_nil)) (de_op op_sub os_sub (de_v 5 (pv 5)) de_int))) (dg_name (pg_name (i := 6) sc__law_paces.nd rfl (by first | exact .inl rfl | exact .inr rfl))))
    (dss_mid (ds_asg (de_op op_mod os_mod (de_cb (fun h => pe_callTy call_int1 (by rfl) m_int (by decide +kernel) h) cs_int (da_cons (de_ix ix_seq os_ix (de_v 0 (pv 0)) de_int) da_nil)) de_int) (dg_name (pg_name (i := 7) sc__law_paces.nd rfl (by first | exact .inl rfl | exact .inr rfl))))
    (dss_cons (ds_asg (de_make (fun h => pe_make C_Need_m___init__.m C_Need_m___init__.ok (hr.mono (by decide)) (by rfl) C_Need_m___init__.g C_Need_m___init__.b .nil pass0 h) (da_cons (de_v 5 (pv 5)) (da_cons (de_tup (da_cons (de_tup (da_cons de_int (da_cons (de_v 1 (pv 1)) da_nil))) (da_cons (de_tup (da_cons (de_op op_add os_add (de_v 1 (pv 1)) (de_v 6 (pv 6))) (da_cons de_non da_nil))) da_nil))) (da_cons de_non da_nil)))) (dg_name (pg_name (i := 8) sc__law_paces.nd rfl (by first | exact .inl rfl | exact .inr rfl))))
    (dss_cons (ds_if (dt_not (dt_tru (de_o (do_callP (fun h => pe_call C__law_same.ok (hr.mono (by decide)) (by rfl) C__law_same.g C__law_same.kp C__law_same.b .nil pass0 h) (da_cons (de_meth (fun ho h => pe_meth ho C_Need_m_rounds_to_exceed.c C_Need_m_rounds_to_exceed.m C_Need_m_rounds_to_exceed.ok (hr.mono (by decide)) C_Need_m_rounds_to_exceed.b .nil pass0 h) (de_v 8 (pv 8)) (da_cons (de_v 2 (pv 2)) (da_cons (de_v 3 (pv 3)) da_nil))) (da_cons (de_o (do_callP (fun h => pe_call C__law_up_count.ok (hr.mono (by decide)) (by rfl) C__law_up_count.g C__law_up_count.kp C__law_up_count.b .nil pass0 h) (da_cons (de_v 5 (pv 5)) (da_cons (de_v 6 (pv 6)) (da_cons (de_v 1 (pv 1)) (da_cons (de_v 2 (pv 2)) (da_cons (de_v 3 (pv 3)) da_nil))))))) da_nil))))))
    (dss_one (ds_ret de_bl))
    dss_nil)
    (dss_cons (ds_if (dt_not (dt_tru (de_o (do_callP (fun h => pe_call C__law_same.ok (hr.mono (by decide)) (by rfl) C__law_same.g C__law_same.kp C__law_same.b .nil pass0 h) (da_cons (de_meth (fun ho h => pe_meth ho C_Need_m_highest.c C_Need_m_highest.m C_Need_m_highest.ok hr C_Need_m_highest.b .nil pass0 h) (de_v 8 (pv 8)) (da_cons (de_v 2 (pv 2)) (da_cons (de_v 4 (pv 4)) da_nil))) (da_cons (de_o (do_callP (fun h => pe_call C__law_up_value.ok (hr.mono (by decide)) (by rfl) C__law_up_value.g C__law_up_value.kp C__law_up_value.b .nil pass0 h) (da_cons (de_v 5 (pv 5)) (da_cons (de_v 6 (pv 6)) (da_cons (de_v 1 (pv 1)) (da_cons (de_v 2 (pv 2)) (da_cons (de_v 4 (pv 4)) da_nil))))))) da_nil))))))
    (dss_one (ds_ret de_bl))
    dss_nil)
    (dss_cons (ds_asg (de_op op_add os_add (de_op op_add os_add (de_v 1 (pv 1)) (de_v 7 (pv 7))) (de_v 5 (pv 5))) (dg_name (pg_name (i := 9) sc__law_paces.nd rfl (by first | exact .inl rfl | exact .inr rfl))))
    (dss_cons (ds_asg (de_make (fun h => pe_make C_Need_m___init__.m C_Need_m___init__.ok (hr.mono (by decide)) (by rfl) C_Need_m___init__.g C_Need_m___init__.b .nil pass0 h) (da_cons (de_v 7 (pv 7)) (da_cons (de_tup (da_cons (de_tup (da_cons (de_op op_add os_add (de_v 7 (pv 7)) (de_v 5 (pv 5))) (da_cons (de_v 9 (pv 9)) da_nil))) (da_cons (de_tup (da_cons (de_op op_add os_add (de_v 9 (pv 9)) (de_v 6 (pv 6))) (da_cons de_non da_nil))) da_nil))) (da_cons de_non da_nil)))) (dg_name (pg_name (i := 10) sc__law_paces.nd rfl (by first | exact .inl rfl | exact .inr rfl))))
    (dss_cons (ds_if (dt_not (dt_tru (de_o (do_callP (fun h => pe_call C__law_same.ok (hr.mono (by decide)) (by rfl) C__law_same.g C__law_same.kp C__law_same.b .nil pass0 h) (da_cons (de_meth (fun ho h => pe_meth ho C_Need_m_rounds_to_afford.c C_Need_m_rounds_to_afford.m C_Need_m_rounds_to_afford.ok (hr.mono (by decide)) C_Need_m_rounds_to_afford.b .nil pass0 h) (de_v 10 (pv 10)) (da_cons (de_v 2 (pv 2)) (da_cons (de_v 3 (pv 3)) da_nil))) (da_cons (de_o (do_callP (fun h => pe_call C__law_down_count.ok (hr.mono (by decide)) (by rfl) C__law_down_count.g C__law_down_count.kp C__law_down_count.b .nil pass0 h) (da_cons (de_v 7 (pv 7)) (da_cons (de_v 5 (pv 5)) (da_cons (de_v 6 (pv 6)) (da_cons (de_v 9 (pv 9)) (da_cons (de_v 2 (pv 2)) (da_cons (de_v 3 (pv 3)) da_nil)))))))) da_nil))))))
    (dss_one (ds_ret de_bl))
    dss_nil)
    (dss_one (ds_ret (de_o (do_callP (fun h => pe_call C__law_same.ok (hr.mono (by decide)) (by rfl) C__law_same.g C__law_same.kp C__law_same.b .nil pass0 h) (da_cons (de_meth (fun ho h => pe_meth ho C_Need_m_lowest.c C_Need_m_lowest.m C_Need_m_lowest.ok hr C_Need_m_lowest.b .nil pass0 h) (de_v 10 (pv 10)) (da_cons (de_v 2 (pv 2)) (da_cons (de_v 4 (pv 4)) da_nil))) (da_cons (de_o (do_callP (fun h => pe_call C__law_down_value.ok (hr.mono (by decide)) (by rfl) C__law_down_value.g C__law_down_value.kp C__law_down_value.b .nil pass0 h) (da_cons (de_v 7 (pv 7)) (da_cons (de_v 5 (pv 5)) (da_cons (de_v 6 (pv 6)) (da_cons (de_v 9 (pv 9)) (da_cons (de_v 2 (pv 2)) (da_cons (de_v 4 (pv 4)) da_nil)))))))) da_nil))))))))))))))), fun ds QD h => ?_⟩)
  · first
      | (obtain ⟨rfl, _⟩ := h; exact ⟨rfl, rfl⟩)
      | (obtain ⟨_, rfl, _⟩ := h; exact ⟨rfl, rfl⟩)
      | (obtain ⟨_, _, rfl, _⟩ := h; exact ⟨rfl, rfl⟩)
      | (obtain ⟨_, _, _, rfl, _⟩ := h; exact ⟨rfl, rfl⟩)
      | (obtain ⟨_, _, _, _, rfl, _⟩ := h; exact ⟨rfl, rfl⟩)
      | (obtain ⟨_, _, _, _, _, rfl, _⟩ := h; exact ⟨rfl, rfl⟩)
      | (obtain ⟨_, _, _, _, _, _, rfl, _⟩ := h; exact ⟨rfl, rfl⟩)
      | (obtain ⟨_, _, _, _, _, _, _, rfl, _⟩ := h; exact ⟨rfl, rfl⟩)
      | (obtain ⟨_, _, _, _, _, _, _, _, rfl, _⟩ := h; exact ⟨rfl, rfl⟩)
      | (obtain ⟨_, _, _, _, _, _, _, _, _, rfl, _⟩ := h; exact ⟨rfl, rfl⟩)
      | (obtain ⟨_, _, _, _, _, _, _, _, _, _, rfl, _⟩ := h; exact ⟨rfl, rfl⟩)
      | (obtain ⟨_, _, _, _, _, _, _, _, _, _, _, rfl, _⟩ := h; exact ⟨rfl, rfl⟩)
  · obtain ⟨rs, b, k, p, L, rfl, hl, hr, b1, b2, k0, k1, p0, p1, l0, l1, q⟩ := h
    obtain ⟨d37, a37, h37⟩ := dr_get hl hr (j := 37) (by decide)
    obtain ⟨d38, a38, h38⟩ := dr_get hl hr (j := 38) (by decide)
    obtain ⟨d39, a39, h39⟩ := dr_get hl hr (j := 39) (by decide)
    have kk := kin k0 k1
    walk_at "go"
    refine ⟨_, a37, ?_⟩
    walk_at "go"
    refine ⟨_, a38, ?_⟩
    walk_at "go"
    refine ⟨fun env => ∃ (pace flat base : Int), env = [some (.sh (.lst (pI rs))), some (.sh (.int b)), some (.sh (.int k)), some (.sh (.int p)), some (.sh (.int L)), some (.sh (.int pace)), some (.sh (.int flat)), some (.sh (.int base)), none, none, none] ∧ 1 ≤ flat ∧ flat < pace ∧ pace ≤ 1001 ∧ 0 ≤ base ∧ base < 1000, ?_, ?_⟩
    · walk_at "go"
      refine ⟨_, a39, ?_⟩
      walk_at "go"
      have g1 := Int.emod_nonneg d38 (show 2 + d37 % 1000 - 1 ≠ 0 by omega)
      have g2 := Int.emod_lt_of_pos d38 (show 0 < 2 + d37 % 1000 - 1 by omega)
      exact ⟨_, _, _, rfl, by omega, by omega, by omega, by omega, by omega⟩
    clear h37 h38 h39 a37 a38 a39
    rintro _ ⟨pace, flat, base, rfl, f1, fp, p1000, b0, b1000⟩
    have db : DnB base pace flat (b + base + pace) k p := ⟨b0, by omega, f1, fp, by omega, by omega, by omega, k0, k1, p0, p1⟩
    have dL : DnB base pace flat (b + base + pace) k L := ⟨b0, by omega, f1, fp, by omega, by omega, by omega, k0, k1, l0, l1⟩
    have ou := upN_ok (pace := pace) (flat := flat) (e := b) (by omega) b1 f1
    have od := dnN_ok db (by omega)
    have szu : Sz (upN pace flat b) := ⟨fun s h => by cases h; omega, fun v h => by cases h⟩
    have szd : Sz (dnN base pace flat (b + base + pace)) := ⟨fun s h => by cases h; omega, fun v h => by cases h⟩
    have hu : RM.le (some k) (nval (upN pace flat b) (some k)) := by
      rw [up_val k0 b1 f1]
      show k ≤ _
      split
      · omega
      · split <;> omega
    walk_at "au"
    refine ⟨true, upN pace flat b, rfl, ou, ?_⟩
    walk_at "au"
    refine ⟨upN pace flat b, some k, p, rfl, ou, szu, kk, p0, by omega, fun r hr => ?_⟩
    walk_at "au"
    refine ⟨pace, flat, b, k, p, rfl, ⟨f1, fp, by omega, b1, by omega, k0, k1, p0, p1⟩, fun r2 hr2 => ?_⟩
    rw [hr.uniq hr2]
    walk_at "au"
    refine ⟨some r2, rfl, ?_⟩
    walk_at "au"
    clear hr hr2
    refine ⟨upN pace flat b, some k, L, rfl, ou, szu, kk, l0, l1, ?_⟩
    rw [high_up ou hu]
    walk_at "au"
    refine ⟨pace, flat, b, k, L, rfl, ⟨f1, fp, by omega, b1, by omega, k0, k1, l0, l1⟩, fun w hw => ?_⟩
    rw [hw]
    walk_at "au"
    refine ⟨some w, rfl, ?_⟩
    walk_at "au"
    refine ⟨true, dnN base pace flat (b + base + pace), rfl, od, ?_⟩
    walk_at "au"
    refine ⟨dnN base pace flat (b + base + pace), some k, p, rfl, od, szd, kk, p0, by omega, fun r hr => ?_⟩
    walk_at "au"
    refine ⟨base, pace, flat, b + base + pace, k, p, rfl, db, fun r2 hr2 => ?_⟩
    rw [hr.uniq hr2]
    walk_at "au"
    refine ⟨r2, rfl, ?_⟩
    walk_at "au"
    clear hr hr2
    refine ⟨dnN base pace flat (b + base + pace), some k, L, rfl, od, szd, kk, l0, l1, ?_⟩
    walk_at "au"
    refine ⟨base, pace, flat, b + base + pace, k, L, rfl, dL, ?_⟩
    walk_at "au"
    refine ⟨_, rfl, ?_⟩
    walk_at "au"
    exact q
/-! ### law -/
abbrev s_law : Stmt := topS 45
theorem sc_law : FnScope ["script", "draws", "need", "f", "k", "needed", "purse", "step", "edge", "limit", "bend", "beyond"] ["script"] (defScope s_law) := ⟨rfl, rfl, rfl, by decide +kernel, rfl, by decide +kernel, by decide +kernel⟩
def fs_law (cNeed : Addr) : FSp := fun ds Q => ∃ (ns : List Int), ds = [.sh (.rol (pI ns))] ∧ ns.length ≤ 63 ∧ (∀ ds', Q (.sh (.bl true)) ds')
theorem ok_law {Pg : Program} {w : World} {K : PySem.W.Frag} {mg : Str → Option Value} {base : Heap} {a : Addr} {fd : FuncData} (F : L2.Fun K "law" "law" s_law a fd)
    (m_range : mg "range" = none)
    (m_int : mg "int" = none)
    (m_abs : mg "abs" = none)
    {cNeed : Addr} (T : Txt K mg cNeed)
    {a__law_draws : Addr} {d__law_draws : FuncData} (C__law_draws : Callee Pg w K mg base 1 "_law_draws" a__law_draws d__law_draws ["cell", "many"] (fs__law_draws cNeed))
    {a__law_cell : Addr} {d__law_cell : FuncData} (C__law_cell : Callee Pg w K mg base 1 "_law_cell" a__law_cell d__law_cell ["script", "k"] (fs__law_cell cNeed))
    {a__law_need : Addr} {d__law_need : FuncData} (C__law_need : Callee Pg w K mg base 2 "_law_need" a__law_need d__law_need ["draws", "place"] (fs__law_need cNeed))
    {a__law_make : Addr} {d__law_make : FuncData} (C__law_make : Callee Pg w K mg base 5 "_law_make" a__law_make d__law_make ["need"] (fs__law_make cNeed))
    {a__law_small : Addr} {d__law_small : FuncData} (C__law_small : Callee Pg w K mg base 6 "_law_small" a__law_small d__law_small ["f", "need", "k", "purse"] (fs__law_small cNeed))
    {a__law_extremes : Addr} {d__law_extremes : FuncData} (C__law_extremes : Callee Pg w K mg base 7 "_law_extremes" a__law_extremes d__law_extremes ["f", "need", "k", "limit"] (fs__law_extremes cNeed))
    {a__law_constant : Addr} {d__law_constant : FuncData} (C__law_constant : Callee Pg w K mg base 7 "_law_constant" a__law_constant d__law_constant ["step", "edge", "needed", "purse", "limit"] (fs__law_constant cNeed))
    {a__law_paces : Addr} {d__law_paces : FuncData} (C__law_paces : Callee Pg w K mg base 7 "_law_paces" a__law_paces d__law_paces ["draws", "bend", "needed", "purse", "limit"] (fs__law_paces cNeed)) :
    FnOk Pg w K mg base CX0 8 a fd ["script"] (spD K (fs_law cNeed)) := by
  have n_Need_start : ClsA K cNeed "start" := ⟨T.cl_Need, T.n_Need_start⟩
  have n_Need_rises : ClsA K cNeed "rises" := ⟨T.cl_Need, T.n_Need_rises⟩
  have n_Need_never : ClsA K cNeed "never" := ⟨T.cl_Need, T.n_Need_never⟩
  have n_Need__values : ClsA K cNeed "_values" := ⟨T.cl_Need, T.n_Need__values⟩
  have is_Need := T.is_Need
  refine Fun.okD [] F sc_law (fun ds QD h => ?_) (fun cdv A outer s H E hr => ⟨_, _, (dss_cons (ds_asg (de_o (do_callP (fun h => pe_call C__law_draws.ok (hr.mono (by decide)) (by rfl) C__law_draws.g C__law_draws.kp C__law_draws.b .nil pass0 h) (da_cons (de_o (do_callP (fun h => pe_call C__law_cell.ok (hr.mono (by decide)) (by rfl) C__law_cell.g C__law_cell.kp C__law_cell.b .nil pass0 h) (da_cons (de_v 0 (pv 0)) (da_cons de_int da_nil)))) (da_cons de_int da_nil)))) (dg_name (pg_name (i := 1) sc_law.nd rfl (by first | exact .inl rfl | exact .inr rfl))))
    (dss_cons (ds_asg (de_o (do_callF (fun h => pe_call C__law_need.ok (hr.mono (by decide)) (by rfl) C__law_need.g C__law_need.kp C__law_need.b .nil pass0 h) (da_there (m := false) (de_v 1 (pv 1)) (da_here (do_lst (da_cons de_int da_nil)) da_nil)))) (dg_name (pg_name (i := 2) sc_law.nd rfl (by first | exact .inl rfl | exact .inr rfl))))
    (dss_cons (ds_asg (de_o (do_callP (fun h => pe_call C__law_make.ok (hr.mono (by decide)) (by rfl) C__law_make.g C__law_make.kp C__law_make.b .nil pass0 h) (da_cons (de_v 2 (pv 2)) da_nil))) (dg_name (pg_name (i := 3) sc_law.nd rfl (by first | exact .inl rfl | exact .inr rfl))))
    (dss_cons (ds_for PassesOwn.never rfl (di_rng1 (fun h => pi_range1 (by rfl) m_range h) (da_cons de_int da_nil)) (dg_name (pg_name (i := 4) sc_law.nd rfl (by first | exact .inl rfl | exact .inr rfl)))
    (dss_cons (ds_asg (de_op op_mod os_mod (de_cb (fun h => pe_callTy call_int1 (by rfl) m_int (by decide +kernel) h) cs_int (da_cons (de_ix ix_seq os_ix (de_v 1 (pv 1)) (de_op op_add os_add de_int (de_v 4 (pv 4)))) da_nil)) de_int) (dg_name (pg_name (i := 5) sc_law.nd rfl (by first | exact .inl rfl | exact .inr rfl))))
    (dss_cons (ds_asg (de_op op_mod os_mod (de_cb (fun h => pe_callTy call_int1 (by rfl) m_int (by decide +kernel) h) cs_int (da_cons (de_ix ix_seq os_ix (de_v 1 (pv 1)) (de_op op_add os_add de_int (de_v 4 (pv 4)))) da_nil)) de_int) (dg_name (pg_name (i := 6) sc_law.nd rfl (by first | exact .inl rfl | exact .inr rfl))))
    (dss_mid (ds_if (dt_cmp op_eq os_eq (de_v 4 (pv 4)) de_int (nomark _))
    (dss_one (ds_asg de_non (dg_name (pg_name (i := 5) sc_law.nd rfl (by first | exact .inl rfl | exact .inr rfl)))))
    dss_nil)
    (dss_mid (ds_if (dt_cmp op_eq os_eq (de_v 4 (pv 4)) de_int (nomark _))
    (dss_cons (ds_asg (de_op op_mod os_mod (de_cb (fun h => pe_callTy call_int1 (by rfl) m_int (by decide +kernel) h) cs_int (da_cons (de_cb (fun h => pe_callB call_abs (by rfl) m_abs (by decide +kernel) h) cs_abs (da_cons (de_o (do_callP (fun h => pe_call C__law_cell.ok (hr.mono (by decide)) (by rfl) C__law_cell.g C__law_cell.kp C__law_cell.b .nil pass0 h) (da_cons (de_v 0 (pv 0)) (da_cons de_int da_nil)))) da_nil)) da_nil)) (de_op op_pow os_pow de_int de_int)) (dg_name (pg_name (i := 5) sc_law.nd rfl (by first | exact .inl rfl | exact .inr rfl))))
    (dss_one (ds_asg (de_op op_mod os_mod (de_cb (fun h => pe_callTy call_int1 (by rfl) m_int (by decide +kernel) h) cs_int (da_cons (de_cb (fun h => pe_callB call_abs (by rfl) m_abs (by decide +kernel) h) cs_abs (da_cons (de_o (do_callP (fun h => pe_call C__law_cell.ok (hr.mono (by decide)) (by rfl) C__law_cell.g C__law_cell.kp C__law_cell.b .nil pass0 h) (da_cons (de_v 0 (pv 0)) (da_cons de_int da_nil)))) da_nil)) da_nil)) (de_op op_pow os_pow de_int de_int)) (dg_name (pg_name (i := 6) sc_law.nd rfl (by first | exact .inl rfl | exact .inr rfl))))))
    dss_nil)
    (dss_one (ds_if (DW.pt (dw_or (dt_not (dt_tru (de_o (do_callP (fun h => pe_call C__law_small.ok (hr.mono (by decide)) (by rfl) C__law_small.g C__law_small.kp C__law_small.b .nil pass0 h) (da_cons (de_v 3 (pv 3)) (da_cons (de_v 2 (pv 2)) (da_cons (de_v 5 (pv 5)) (da_cons (de_v 6 (pv 6)) da_nil)))))))) (dw_or1 (dt_not (dt_tru (de_o (do_callP (fun h => pe_call C__law_extremes.ok hr (by rfl) C__law_extremes.g C__law_extremes.kp C__law_extremes.b .nil pass0 h) (da_cons (de_v 3 (pv 3)) (da_cons (de_v 2 (pv 2)) (da_cons (de_v 5 (pv 5)) (da_cons (de_ix ix_seq os_ix (de_o (do_lst (da_cons de_int (da_cons de_int (da_cons de_int (da_cons de_int (da_cons de_int (da_cons de_int da_nil)))))))) (de_op op_mod os_mod (de_cb (fun h => pe_callTy call_int1 (by rfl) m_int (by decide +kernel) h) cs_int (da_cons (de_op op_add os_add (de_v 4 (pv 4)) (de_ix ix_seq os_ix (de_v 1 (pv 1)) de_int)) da_nil)) de_int)) da_nil)))))))))))
    (dss_one (ds_ret de_bl))
    dss_nil)))))))
    (dss_cons (ds_asg (de_op op_add os_add de_int (de_op op_mod os_mod (de_cb (fun h => pe_callTy call_int1 (by rfl) m_int (by decide +kernel) h) cs_int (da_cons (de_ix ix_seq os_ix (de_v 1 (pv 1)) de_int) da_nil)) de_int)) (dg_name (pg_name (i := 7) sc_law.nd rfl (by first | exact .inl rfl | exact .inr rfl))))
    (dss_cons (ds_asg (de_op op_mod os_mod (de_cb (fun h => pe_callTy call_int1 (by rfl) m_int (by decide +kernel) h) cs_int (da_cons (de_ix ix_seq os_ix (de_v 1 (pv 1)) de_int) da_nil)) de_int) (dg_name (pg_name (i := 8) sc_law.nd rfl (by first | exact .inl rfl | exact .inr rfl))))
    (dss_cons (ds_asg (de_op op_mod os_mod (de_cb (fun h => pe_callTy call_int1 (by rfl) m_int (by decide +kernel) h) cs_int (da_cons (de_cb (fun h => pe_callB call_abs (by rfl) m_abs (by decide +kernel) h) cs_abs (da_cons (de_o (do_callP (fun h => pe_call C__law_cell.ok (hr.mono (by decide)) (by rfl) C__law_cell.g C__law_cell.kp C__law_cell.b .nil pass0 h) (da_cons (de_v 0 (pv 0)) (da_cons de_int da_nil)))) da_nil)) da_nil)) (de_op op_pow os_pow de_int de_int)) (dg_name (pg_name (i := 5) sc_law.nd rfl (by first | exact .inl rfl | exact .inr rfl))))
    (dss_cons (ds_asg (de_op op_mod os_mod (de_cb (fun h => pe_callTy call_int1 (by rfl) m_int (by decide +kernel) h) cs_int (da_cons (de_cb (fun h => pe_callB call_abs (by rfl) m_abs (by decide +kernel) h) cs_abs (da_cons (de_o (do_callP (fun h => pe_call C__law_cell.ok (hr.mono (by decide)) (by rfl) C__law_cell.g C__law_cell.kp C__law_cell.b .nil pass0 h) (da_cons (de_v 0 (pv 0)) (da_cons de_int da_nil)))) da_nil)) da_nil)) (de_op op_pow os_pow de_int de_int)) (dg_name (pg_name (i := 6) sc_law.nd rfl (by first | exact .inl rfl | exact .inr rfl))))
    (dss_mid (ds_asg (de_op op_mod os_mod (de_cb (fun h => pe_callTy call_int1 (by rfl) m_int (by decide +kernel) h) cs_int (da_cons (de_cb (fun h => pe_callB call_abs (by rfl) m_abs (by decide +kernel) h) cs_abs (da_cons (de_o (do_callP (fun h => pe_call C__law_cell.ok (hr.mono (by decide)) (by rfl) C__law_cell.g C__law_cell.kp C__law_cell.b .nil pass0 h) (da_cons (de_v 0 (pv 0)) (da_cons de_int da_nil)))) da_nil)) da_nil)) (de_op op_pow os_pow de_int de_int)) (dg_name (pg_name (i := 9) sc_law.nd rfl (by first | exact .inl rfl | exact .inr rfl))))
    (dss_cons (ds_if (dt_not (dt_tru (de_o (do_callP (fun h => pe_call C__law_constant.ok hr (by rfl) C__law_constant.g C__law_constant.kp C__law_constant.b .nil pass0 h) (da_cons (de_v 7 (pv 7)) (da_cons (de_v 8 (pv 8)) (da_cons (de_v 5 (pv 5)) (da_cons (de_v 6 (pv 6)) (da_cons (de_v 9 (pv 9)) da_nil)))))))))
    (dss_one (ds_ret de_bl))
    dss_nil)
    (dss_cons (ds_if (dt_not (dt_tru (de_o (do_callP (fun h => pe_call C__law_constant.ok hr (by rfl) C__law_constant.g C__law_constant.kp C__law_constant.b .nil pass0 h) (da_cons (de_v 7 (pv 7)) (da_cons (de_v 8 (pv 8)) (da_cons (de_op op_mod os_mod (de_cb (fun h => pe_callTy call_int1 (by rfl) m_int (by decide +kernel) h) cs_int (da_cons (de_v 5 (pv 5)) da_nil)) de_int) (da_cons (de_op op_mod os_mod (de_cb (fun h => pe_callTy call_int1 (by rfl) m_int (by decide +kernel) h) cs_int (da_cons (de_v 6 (pv 6)) da_nil)) de_int) (da_cons (de_op op_mod os_mod (de_cb (fun h => pe_callTy call_int1 (by rfl) m_int (by decide +kernel) h) cs_int (da_cons (de_v 9 (pv 9)) da_nil)) de_int) da_nil)))))))))
    (dss_one (ds_ret de_bl))
    dss_nil)
    (dss_cons (ds_asg (de_op op_add os_add de_int (de_op op_mod os_mod (de_cb (fun h => pe_callTy call_int1 (by rfl) m_int (by decide +kernel) h) cs_int (da_cons (de_cb (fun h => pe_callB call_abs (by rfl) m_abs (by decide +kernel) h) cs_abs (da_cons (de_o (do_callP (fun h => pe_call C__law_cell.ok (hr.mono (by decide)) (by rfl) C__law_cell.g C__law_cell.kp C__law_cell.b .nil pass0 h) (da_cons (de_v 0 (pv 0)) (da_cons de_int da_nil)))) da_nil)) da_nil)) (de_op op_pow os_pow de_int de_int))) (dg_name (pg_name (i := 10) sc_law.nd rfl (by first | exact .inl rfl | exact .inr rfl))))
    (dss_mid (ds_asg (de_op op_add os_add (de_v 10 (pv 10)) (de_op op_mulW os_mul (de_ix ix_seq os_ix (de_v 1 (pv 1)) de_int) (de_ix ix_seq os_ix (de_v 1 (pv 1)) de_int))) (dg_name (pg_name (i := 11) sc_law.nd rfl (by first | exact .inl rfl | exact .inr rfl))))
    (dss_cons (ds_if (DW.pt (dw_or (dt_not (dt_tru (de_o (do_callP (fun h => pe_call C__law_paces.ok hr (by rfl) C__law_paces.g C__law_paces.kp C__law_paces.b .nil pass0 h) (da_cons (de_v 1 (pv 1)) (da_cons (de_v 10 (pv 10)) (da_cons (de_v 5 (pv 5)) (da_cons (de_v 6 (pv 6)) (da_cons (de_v 9 (pv 9)) da_nil))))))))) (dw_or1 (dt_not (dt_tru (de_o (do_callP (fun h => pe_call C__law_paces.ok hr (by rfl) C__law_paces.g C__law_paces.kp C__law_paces.b .nil pass0 h) (da_cons (de_v 1 (pv 1)) (da_cons (de_v 10 (pv 10)) (da_cons (de_op op_mod os_mod (de_cb (fun h => pe_callTy call_int1 (by rfl) m_int (by decide +kernel) h) cs_int (da_cons (de_v 5 (pv 5)) da_nil)) (de_v 10 (pv 10))) (da_cons (de_v 11 (pv 11)) (da_cons (de_op op_fdivW os_div (de_v 10 (pv 10)) de_int) da_nil))))))))))))
    (dss_one (ds_ret de_bl))
    dss_nil)
    (dss_cons (ds_if (dt_not (dt_tru (de_o (do_callP (fun h => pe_call C__law_paces.ok hr (by rfl) C__law_paces.g C__law_paces.kp C__law_paces.b .nil pass0 h) (da_cons (de_v 1 (pv 1)) (da_cons (de_v 10 (pv 10)) (da_cons (de_v 11 (pv 11)) (da_cons (de_op op_mod os_mod (de_cb (fun h => pe_callTy call_int1 (by rfl) m_int (by decide +kernel) h) cs_int (da_cons (de_v 6 (pv 6)) da_nil)) (de_v 10 (pv 10))) (da_cons (de_op op_fdivW os_div (de_v 10 (pv 10)) de_int) da_nil)))))))))
    (dss_one (ds_ret de_bl))
    dss_nil)
    (dss_one (ds_ret (de_o (do_callP (fun h => pe_call C__law_paces.ok hr (by rfl) C__law_paces.g C__law_paces.kp C__law_paces.b .nil pass0 h) (da_cons (de_v 1 (pv 1)) (da_cons (de_op op_add os_add de_int (de_op op_mod os_mod (de_cb (fun h => pe_callTy call_int1 (by rfl) m_int (by decide +kernel) h) cs_int (da_cons (de_v 10 (pv 10)) da_nil)) de_int)) (da_cons (de_op op_mod os_mod (de_cb (fun h => pe_callTy call_int1 (by rfl) m_int (by decide +kernel) h) cs_int (da_cons (de_v 5 (pv 5)) da_nil)) de_int) (da_cons (de_op op_mod os_mod (de_cb (fun h => pe_callTy call_int1 (by rfl) m_int (by decide +kernel) h) cs_int (da_cons (de_v 6 (pv 6)) da_nil)) de_int) (da_cons (de_op op_mod os_mod (de_cb (fun h => pe_callTy call_int1 (by rfl) m_int (by decide +kernel) h) cs_int (da_cons (de_v 9 (pv 9)) da_nil)) de_int) da_nil)))))))))))))))))))))))), fun ds QD h => ?_⟩)
  · first
      | (obtain ⟨rfl, _⟩ := h; exact ⟨rfl, rfl⟩)
      | (obtain ⟨_, rfl, _⟩ := h; exact ⟨rfl, rfl⟩)
      | (obtain ⟨_, _, rfl, _⟩ := h; exact ⟨rfl, rfl⟩)
      | (obtain ⟨_, _, _, rfl, _⟩ := h; exact ⟨rfl, rfl⟩)
      | (obtain ⟨_, _, _, _, rfl, _⟩ := h; exact ⟨rfl, rfl⟩)
      | (obtain ⟨_, _, _, _, _, rfl, _⟩ := h; exact ⟨rfl, rfl⟩)
      | (obtain ⟨_, _, _, _, _, _, rfl, _⟩ := h; exact ⟨rfl, rfl⟩)
      | (obtain ⟨_, _, _, _, _, _, _, rfl, _⟩ := h; exact ⟨rfl, rfl⟩)
      | (obtain ⟨_, _, _, _, _, _, _, _, rfl, _⟩ := h; exact ⟨rfl, rfl⟩)
      | (obtain ⟨_, _, _, _, _, _, _, _, _, rfl, _⟩ := h; exact ⟨rfl, rfl⟩)
      | (obtain ⟨_, _, _, _, _, _, _, _, _, _, rfl, _⟩ := h; exact ⟨rfl, rfl⟩)
      | (obtain ⟨_, _, _, _, _, _, _, _, _, _, _, rfl, _⟩ := h; exact ⟨rfl, rfl⟩)
  · obtain ⟨ns, rfl, hl, q⟩ := h
    walk_at "au"
    refine ⟨ns, 0, rfl, ?_⟩
    walk_at "au"
    refine ⟨_, 40, rfl, by decide, ?_⟩
    have hdr := drawsF_rg (ns.getD 0 0) 40
    have hdl := drawsF_len (ns.getD 0 0) 40
    revert hdr hdl
    generalize drawsF (ns.getD 0 0) 40 = dr
    intro hdr hdl
    walk_at "au"
    refine ⟨dr, 0, rfl, hdr, fun n k' nb => ?_⟩
    have ok := nb.ok
    have sz := nb.sz
    walk_at "au"
    refine ⟨n, rfl, ok, ?_⟩
    walk_at "au"
    refine ⟨fun i env => ∃ a b c, env = [some (.sh (.rol (pI ns))), some (.sh (.lst (pI dr))), some (.sh (needL n)), some (.sh (ndP cNeed n)), a, b, c, none, none, none, none, none], ⟨none, none, none, rfl⟩, fun i p e hp hI => ?_, fun e hI => ?_⟩
    · obtain ⟨a, b, c, rfl⟩ := hI
      obtain ⟨hi, rfl⟩ := rngP_get hp
      have hi' : i < 6 := hi
      obtain ⟨d1, a1, h1⟩ := dr_get hdl hdr (j := 25 + i) (by omega)
      obtain ⟨d2, a2, h2⟩ := dr_get hdl hdr (j := 31 + i) (by omega)
      obtain ⟨d3, a3, h3⟩ := dr_get hdl hdr (j := 39) (by decide)
      have hd1 : 0 ≤ d1 % 40 ∧ d1 % 40 < 40 := by omega
      have hd2 : 0 ≤ d2 % 40 ∧ d2 % 40 < 40 := by omega
      rw [show ((25 + i : Nat) : Int) = 25 + (0 + (i : Int)) by omega] at a1
      rw [show ((31 + i : Nat) : Int) = 31 + (0 + (i : Int)) by omega] at a2
      walk_at "au"
      refine ⟨_, a1, ?_⟩
      walk_at "au"
      refine ⟨_, a2, ?_⟩
      walk_at "au"
      refine ⟨fun env => ∃ (k : Option Int) (p : Int), env = [some (.sh (.rol (pI ns))), some (.sh (.lst (pI dr))), some (.sh (needL n)), some (.sh (ndP cNeed n)), some (.sh (.int (0 + (i : Int)))), some (.sh (oI k)), some (.sh (.int p)), none, none, none, none, none] ∧ KIn k ∧ 0 ≤ p ∧ p < 2 ^ 200, ?_, ?_⟩
      · walk_at "au"
        · exact ⟨none, d2 % 40, rfl, (fun v e => (by cases e)), by omega, by omega⟩
        · exact ⟨some (d1 % 40), d2 % 40, rfl, kin hd1.1 (by omega), by omega, by omega⟩
      rintro _ ⟨k, p, rfl, hk, p0, p1⟩
      walk_at "au"
      refine ⟨fun env => ∃ (k : Option Int) (p : Int), env = [some (.sh (.rol (pI ns))), some (.sh (.lst (pI dr))), some (.sh (needL n)), some (.sh (ndP cNeed n)), some (.sh (.int (0 + (i : Int)))), some (.sh (oI k)), some (.sh (.int p)), none, none, none, none, none] ∧ KIn k ∧ 0 ≤ p ∧ p < 2 ^ 200, ?_, ?_⟩
      · walk_at "au"
        · refine ⟨ns, 1, rfl, ?_⟩
          walk_at "au"
          refine ⟨ns, 2, rfl, ?_⟩
          walk_at "au"
          simp only [p60]
          generalize (if ns.getD 1 0 < 0 then -ns.getD 1 0 else ns.getD 1 0) = u
          generalize (if ns.getD 2 0 < 0 then -ns.getD 2 0 else ns.getD 2 0) = v
          exact ⟨some (u % 10 ^ 60), v % 10 ^ 60, rfl, kin (md60 u).1 (md60 u).2, (md60 v).1, (md60 v).2⟩
        · exact ⟨k, p, rfl, hk, p0, p1⟩
      clear hk p0 p1
      rintro _ ⟨k, p, rfl, hk, p0, p1⟩
      walk_at "au"
      refine ⟨n, k, p, rfl, ok, sz, hk, p0, by omega, ?_⟩
      walk_at "au"
      refine ⟨_, a3, ?_⟩
      walk_at "au"
      obtain ⟨L, hL, hat⟩ := pick6 (0 + (i : Int) + d3)
      refine ⟨_, hat, ?_⟩
      walk_at "au"
      refine ⟨n, k, L, rfl, ok, sz, hk, hL, ?_⟩
      walk_at "au"
      exact ⟨_, _, _, rfl⟩
    · obtain ⟨a, b, c, rfl⟩ := hI
      obtain ⟨d1, a1, h1⟩ := dr_get hdl hdr (j := 37) (by decide)
      obtain ⟨d2, a2, h2⟩ := dr_get hdl hdr (j := 38) (by decide)
      obtain ⟨d3, a3, h3⟩ := dr_get hdl hdr (j := 30) (by decide)
      obtain ⟨d4, a4, h4⟩ := dr_get hdl hdr (j := 31) (by decide)
      walk_at "au"
      refine ⟨_, a1, ?_⟩
      walk_at "au"
      refine ⟨_, a2, ?_⟩
      walk_at "au"
      refine ⟨ns, 3, rfl, ?_⟩
      walk_at "au"
      refine ⟨ns, 4, rfl, ?_⟩
      walk_at "au"
      refine ⟨fun env => ∃ (step e k p L : Int), env = [some (.sh (.rol (pI ns))), some (.sh (.lst (pI dr))), some (.sh (needL n)), some (.sh (ndP cNeed n)), a, some (.sh (.int k)), some (.sh (.int p)), some (.sh (.int step)), some (.sh (.int e)), some (.sh (.int L)), none, none] ∧ CB step e k p L, ?_, ?_⟩
      · walk_at "au"
        refine ⟨ns, 5, rfl, ?_⟩
        walk_at "au"
        simp only [p60]
        generalize (if ns.getD 3 0 < 0 then -ns.getD 3 0 else ns.getD 3 0) = u
        generalize (if ns.getD 4 0 < 0 then -ns.getD 4 0 else ns.getD 4 0) = v
        generalize (if ns.getD 5 0 < 0 then -ns.getD 5 0 else ns.getD 5 0) = w
        refine ⟨_, _, _, _, _, rfl, ?_⟩
        exact CB.mk (by omega) (by omega) (by omega) (by omega) (md60 u).1 (md60 u).2 (md60 v).1 (md60 v).2 (md60 w).1 (md60 w).2
      clear a1 h1 a2 h2
      rintro _ ⟨step, e, k, p, L, rfl, cb⟩
      have kb := cb.k0
      have pb := cb.p0
      have lb := cb.l0
      walk_at "au"
      refine ⟨step, e, k, p, L, rfl, cb, ?_⟩
      walk_at "au"
      refine ⟨step, e, k % 5000, p % 3000, L % 9, rfl, ⟨cb.s1, cb.s2, cb.e0, cb.e1, by omega, by omega, by omega, by omega, by omega, by omega⟩, ?_⟩
      walk_at "au"
      refine ⟨ns, 6, rfl, ?_⟩
      walk_at "au"
      simp only [show (10 : Int) ^ (40 : Int).toNat = 10 ^ 40 from rfl]
      generalize (if ns.getD 6 0 < 0 then -ns.getD 6 0 else ns.getD 6 0) = u
      refine ⟨fun env => ∃ (bd by' : Int), env = [some (.sh (.rol (pI ns))), some (.sh (.lst (pI dr))), some (.sh (needL n)), some (.sh (ndP cNeed n)), a, some (.sh (.int k)), some (.sh (.int p)), some (.sh (.int step)), some (.sh (.int e)), some (.sh (.int L)), some (.sh (.int bd)), some (.sh (.int by'))] ∧ 1 ≤ bd ∧ bd < 2 ^ 199 ∧ 0 ≤ by' ∧ by' < 2 ^ 200, ?_, ?_⟩
      · walk_at "au"
        refine ⟨_, a3, ?_⟩
        walk_at "au"
        refine ⟨_, a4, ?_⟩
        walk_at "au"
        have m0 : 0 ≤ d3 * d4 := Int.mul_nonneg (by omega) (by omega)
        have m1 : d3 * d4 ≤ 1000000 * 1000000 := Int.mul_le_mul (by omega) (by omega) (by omega) (by omega)
        exact ⟨_, _, rfl, by omega, by omega, by omega, by omega⟩
      clear a3 a4 h3 h4
      rintro _ ⟨bd, by', rfl, g1, g2, g3, g4⟩
      have c1 := cb.k1
      have c2 := cb.p1
      have c3 := cb.l1
      have nk : 0 ≤ k % bd ∧ k % bd < 2 ^ 200 := by
        have := Int.emod_nonneg k (show bd ≠ 0 by omega)
        have := Int.emod_lt_of_pos k (show 0 < bd by omega)
        omega
      have np : 0 ≤ p % bd ∧ p % bd < 2 ^ 200 := by
        have := Int.emod_nonneg p (show bd ≠ 0 by omega)
        have := Int.emod_lt_of_pos p (show 0 < bd by omega)
        omega
      walk_at "au"
      refine ⟨dr, bd, k, p, L, rfl, hdl, hdr, g1, g2, kb, c1, pb, c2, lb, c3, ?_⟩
      walk_at "au"
      refine ⟨dr, bd, k % bd, by', bd / 500, rfl, hdl, hdr, g1, g2, nk.1, nk.2, g3, g4, by omega, by omega, ?_⟩
      walk_at "au"
      refine ⟨dr, bd, by', p % bd, bd / 500, rfl, hdl, hdr, g1, g2, g3, g4, np.1, np.2, by omega, by omega, ?_⟩
      walk_at "au"
      refine ⟨dr, 1 + bd % 3000, k % 9000, p % 9000, L % 40, rfl, hdl, hdr, by omega, by omega, by omega, by omega, by omega, by omega, by omega, by omega, ?_⟩
      walk_at "au"
      exact q _
end K19
namespace K19
open PySem PySem.Spec PyProof.Rows L2 DL
def spLaw (K : PySem.W.Frag) : Sp := fun vs H Q _ => ∃ (a : Addr) (ns : List Int), vs = [.ref a] ∧ SqL K H a (ns.map V.int) ∧ ns.length ≤ 63 ∧ ∀ H', Q (.bl true) H'
theorem law_sp {K : PySem.W.Frag} {cNeed : Addr} {vs : List V} {H : Hp} {Q : VK} {E : XK} (h : spLaw K vs H Q E) : spD K (fs_law cNeed) vs H Q E := by
  obtain ⟨a, ns, rfl, hS, hl, q⟩ := h
  refine ⟨H, [.sh (.rol (ns.map P.int))], fun _ => [], fun d _ => d = .sh (.bl true), ?_, ⟨ns, rfl, hl, fun _ => rfl⟩, ?_⟩
  · refine ⟨Ex.refl _, fun i d e => ?_, fun _ _ => rfl, fun _ => List.nodup_nil, fun _ _ _ h => absurd h List.not_mem_nil, fun _ _ h => absurd h List.not_mem_nil, rfl⟩
    cases i with
    | zero =>
      cases e
      exact ⟨_, rfl, rfl, a, _, rfl, hS, RpA.ints⟩
    | succ i => cases e
  · rintro d ds v F B' H' G' rfl _ o _
    rw [show v = V.bl true from o.rp.2]
    exact q H'
theorem all_mk {l : PySem.W.OpenLaw} {w : World} {K : PySem.W.Frag} {h : Heap} {mg : Str → Option Value} {fa : Addr} (X : K.In h) (G : h.Ns mainGlobals mg) (hfa : mg "law" = some (.ref fa))
    {cNeed : Addr}
    {od0 an0 : Option Addr} {sl0 : Array (Option Value)} {oc0 kV0 dc0 pm0 cd0 ct0 : Value} {f0 : Addr}
    {od1 an1 : Option Addr} {sl1 : Array (Option Value)} {oc1 kV1 dc1 pm1 cd1 ct1 : Value} {f1 : Addr}
    {od2 an2 : Option Addr} {sl2 : Array (Option Value)} {oc2 kV2 dc2 pm2 cd2 ct2 : Value} {f2 : Addr}
    {od3 an3 : Option Addr} {sl3 : Array (Option Value)} {oc3 kV3 dc3 pm3 cd3 ct3 : Value} {f3 : Addr}
    {od4 an4 : Option Addr} {sl4 : Array (Option Value)} {oc4 kV4 dc4 pm4 cd4 ct4 : Value} {f4 : Addr}
    {od5 an5 : Option Addr} {sl5 : Array (Option Value)} {oc5 kV5 dc5 pm5 cd5 ct5 : Value} {f5 : Addr}
    {od6 an6 : Option Addr} {sl6 : Array (Option Value)} {oc6 kV6 dc6 pm6 cd6 ct6 : Value} {f6 : Addr}
    {od7 an7 : Option Addr} {sl7 : Array (Option Value)} {oc7 kV7 dc7 pm7 cd7 ct7 : Value} {f7 : Addr}
    {od8 an8 : Option Addr} {sl8 : Array (Option Value)} {oc8 kV8 dc8 pm8 cd8 ct8 : Value} {f8 : Addr}
    {od9 an9 : Option Addr} {sl9 : Array (Option Value)} {oc9 kV9 dc9 pm9 cd9 ct9 : Value} {f9 : Addr}
    {od10 an10 : Option Addr} {sl10 : Array (Option Value)} {oc10 kV10 dc10 pm10 cd10 ct10 : Value} {f10 : Addr}
    {od11 an11 : Option Addr} {sl11 : Array (Option Value)} {oc11 kV11 dc11 pm11 cd11 ct11 : Value} {f11 : Addr}
    {od12 an12 : Option Addr} {sl12 : Array (Option Value)} {oc12 kV12 dc12 pm12 cd12 ct12 : Value} {f12 : Addr}
    {od13 an13 : Option Addr} {sl13 : Array (Option Value)} {oc13 kV13 dc13 pm13 cd13 ct13 : Value} {f13 : Addr}
    {od14 an14 : Option Addr} {sl14 : Array (Option Value)} {oc14 kV14 dc14 pm14 cd14 ct14 : Value} {f14 : Addr}
    {od15 an15 : Option Addr} {sl15 : Array (Option Value)} {oc15 kV15 dc15 pm15 cd15 ct15 : Value} {f15 : Addr}
    {od16 an16 : Option Addr} {sl16 : Array (Option Value)} {oc16 kV16 dc16 pm16 cd16 ct16 : Value} {f16 : Addr}
    {od17 an17 : Option Addr} {sl17 : Array (Option Value)} {oc17 kV17 dc17 pm17 cd17 ct17 : Value} {f17 : Addr}
    {od18 an18 : Option Addr} {sl18 : Array (Option Value)} {oc18 kV18 dc18 pm18 cd18 ct18 : Value} {f18 : Addr}
    {od19 an19 : Option Addr} {sl19 : Array (Option Value)} {oc19 kV19 dc19 pm19 cd19 ct19 : Value} {f19 : Addr}
    {od20 an20 : Option Addr} {sl20 : Array (Option Value)} {oc20 kV20 dc20 pm20 cd20 ct20 : Value} {f20 : Addr}
    {od21 an21 : Option Addr} {sl21 : Array (Option Value)} {oc21 kV21 dc21 pm21 cd21 ct21 : Value} {f21 : Addr}
    {od22 an22 : Option Addr} {sl22 : Array (Option Value)} {oc22 kV22 dc22 pm22 cd22 ct22 : Value} {f22 : Addr}
    {od23 an23 : Option Addr} {sl23 : Array (Option Value)} {oc23 kV23 dc23 pm23 cd23 ct23 : Value} {f23 : Addr}
    {od24 an24 : Option Addr} {sl24 : Array (Option Value)} {oc24 kV24 dc24 pm24 cd24 ct24 : Value} {f24 : Addr}
    {od25 an25 : Option Addr} {sl25 : Array (Option Value)} {oc25 kV25 dc25 pm25 cd25 ct25 : Value} {f25 : Addr}
    {od26 an26 : Option Addr} {sl26 : Array (Option Value)} {oc26 kV26 dc26 pm26 cd26 ct26 : Value} {f26 : Addr}
    {od27 an27 : Option Addr} {sl27 : Array (Option Value)} {oc27 kV27 dc27 pm27 cd27 ct27 : Value} {f27 : Addr}
    {od28 an28 : Option Addr} {sl28 : Array (Option Value)} {oc28 kV28 dc28 pm28 cd28 ct28 : Value} {f28 : Addr}
    {od29 an29 : Option Addr} {sl29 : Array (Option Value)} {oc29 kV29 dc29 pm29 cd29 ct29 : Value} {f29 : Addr}
    {od30 an30 : Option Addr} {sl30 : Array (Option Value)} {oc30 kV30 dc30 pm30 cd30 ct30 : Value} {f30 : Addr}
    {od31 an31 : Option Addr} {sl31 : Array (Option Value)} {oc31 kV31 dc31 pm31 cd31 ct31 : Value} {f31 : Addr}
    {od32 an32 : Option Addr} {sl32 : Array (Option Value)} {oc32 kV32 dc32 pm32 cd32 ct32 : Value} {f32 : Addr}
    {od33 an33 : Option Addr} {sl33 : Array (Option Value)} {oc33 kV33 dc33 pm33 cd33 ct33 : Value} {f33 : Addr}
    {od34 an34 : Option Addr} {sl34 : Array (Option Value)} {oc34 kV34 dc34 pm34 cd34 ct34 : Value} {f34 : Addr}
    {od35 an35 : Option Addr} {sl35 : Array (Option Value)} {oc35 kV35 dc35 pm35 cd35 ct35 : Value} {f35 : Addr}
    {od36 an36 : Option Addr} {sl36 : Array (Option Value)} {oc36 kV36 dc36 pm36 cd36 ct36 : Value} {f36 : Addr}
    (qNeed_aC : PySem.W.nsIn K mainGlobals "Need" = some (some (.ref cNeed)))
    (qNeed_pg : PySem.W.plainGet K cNeed Str.empty = true)
    (qNeed_hd : PySem.W.hasDictIn K cNeed = true)
    (qNeed_po : PySem.W.plainOver K cNeed = true)
    (qNeed_sa : PySem.W.findIn K (.ref cNeed) "__setattr__" = some (some (.builtin "object.__setattr__")))
    (qNeed_mk : PySem.W.makesIn K cNeed = true)
    (qNeed_kc : PySem.W.keepIn K (.ref cNeed) = true)
    (qNeed_sf : PySem.W.selfFirst K cNeed = true)
    (qNeed_nf : PySem.W.notFirst K cNeed (.ref cNeed) = true)
    (qNeed_ia : PySem.W.findIn K (.ref cNeed) "__class__" = some (some (.builtin "object.__class__")))
    (qNeed_ib : PySem.W.specialIn K (.builtin "object.__class__") "__get__" = some (some (.builtin "getset_descriptor.__get__")))
    (qNeed_ic : PySem.W.takesIn K (.builtin "object.__class__") = some true)
    (qNeed_im : PySem.W.mroIn K cNeed (.type "object") = some true)
    (qNeed_n_start : PySem.W.findIn K (.ref cNeed) "start" = some none)
    (qNeed_n_rises : PySem.W.findIn K (.ref cNeed) "rises" = some none)
    (qNeed_n_never : PySem.W.findIn K (.ref cNeed) "never" = some none)
    (qNeed_n__values : PySem.W.findIn K (.ref cNeed) "_values" = some none)
    (a0 : PySem.W.nsIn K mainGlobals "are_rises" = some (some (.ref f0))) (l0 : K.lookup f0 = some ⟨oc0, od0, .func (PySem.W.fnOf "are_rises" "are_rises" (defArgs s_are_rises) (defBody s_are_rises) (defScope s_are_rises) .none kV0 dc0 pm0 an0 cd0 ct0), sl0⟩) (c0 : PySem.W.codeIn K cd0 "are_rises" = true) (k0 : PySem.W.keepIn K (.ref f0) = true)
    (a1 : PySem.W.nsIn K mainGlobals "is_open" = some (some (.ref f1))) (l1 : K.lookup f1 = some ⟨oc1, od1, .func (PySem.W.fnOf "is_open" "is_open" (defArgs s_is_open) (defBody s_is_open) (defScope s_is_open) .none kV1 dc1 pm1 an1 cd1 ct1), sl1⟩) (c1 : PySem.W.codeIn K cd1 "is_open" = true) (k1 : PySem.W.keepIn K (.ref f1) = true)
    (a2 : PySem.W.nsIn K mainGlobals "values_at_lows" = some (some (.ref f2))) (l2 : K.lookup f2 = some ⟨oc2, od2, .func (PySem.W.fnOf "values_at_lows" "values_at_lows" (defArgs s_values_at_lows) (defBody s_values_at_lows) (defScope s_values_at_lows) .none kV2 dc2 pm2 an2 cd2 ct2), sl2⟩) (c2 : PySem.W.codeIn K cd2 "values_at_lows" = true) (k2 : PySem.W.keepIn K (.ref f2) = true)
    (a3 : PySem.W.nsIn K mainGlobals "greatest_value" = some (some (.ref f3))) (l3 : K.lookup f3 = some ⟨oc3, od3, .func (PySem.W.fnOf "greatest_value" "greatest_value" (defArgs s_greatest_value) (defBody s_greatest_value) (defScope s_greatest_value) .none kV3 dc3 pm3 an3 cd3 ct3), sl3⟩) (c3 : PySem.W.codeIn K cd3 "greatest_value" = true) (k3 : PySem.W.keepIn K (.ref f3) = true)
    (a4 : PySem.W.nsIn K mainGlobals "pair_at" = some (some (.ref f4))) (l4 : K.lookup f4 = some ⟨oc4, od4, .func (PySem.W.fnOf "pair_at" "pair_at" (defArgs s_pair_at) (defBody s_pair_at) (defScope s_pair_at) .none kV4 dc4 pm4 an4 cd4 ct4), sl4⟩) (c4 : PySem.W.codeIn K cd4 "pair_at" = true) (k4 : PySem.W.keepIn K (.ref f4) = true)
    (a5 : PySem.W.nsIn K mainGlobals "sooner" = some (some (.ref f5))) (l5 : K.lookup f5 = some ⟨oc5, od5, .func (PySem.W.fnOf "sooner" "sooner" (defArgs s_sooner) (defBody s_sooner) (defScope s_sooner) .none kV5 dc5 pm5 an5 cd5 ct5), sl5⟩) (c5 : PySem.W.codeIn K cd5 "sooner" = true) (k5 : PySem.W.keepIn K (.ref f5) = true)
    (a6 : PySem.W.nsIn K mainGlobals "exceeds" = some (some (.ref f6))) (l6 : K.lookup f6 = some ⟨oc6, od6, .func (PySem.W.fnOf "exceeds" "exceeds" (defArgs s_exceeds) (defBody s_exceeds) (defScope s_exceeds) .none kV6 dc6 pm6 an6 cd6 ct6), sl6⟩) (c6 : PySem.W.codeIn K cd6 "exceeds" = true) (k6 : PySem.W.keepIn K (.ref f6) = true)
    (a7 : PySem.W.nsIn K mainGlobals "_law_cell" = some (some (.ref f7))) (l7 : K.lookup f7 = some ⟨oc7, od7, .func (PySem.W.fnOf "_law_cell" "_law_cell" (defArgs s__law_cell) (defBody s__law_cell) (defScope s__law_cell) .none kV7 dc7 pm7 an7 cd7 ct7), sl7⟩) (c7 : PySem.W.codeIn K cd7 "_law_cell" = true) (k7 : PySem.W.keepIn K (.ref f7) = true)
    (a8 : PySem.W.nsIn K mainGlobals "_law_draws" = some (some (.ref f8))) (l8 : K.lookup f8 = some ⟨oc8, od8, .func (PySem.W.fnOf "_law_draws" "_law_draws" (defArgs s__law_draws) (defBody s__law_draws) (defScope s__law_draws) .none kV8 dc8 pm8 an8 cd8 ct8), sl8⟩) (c8 : PySem.W.codeIn K cd8 "_law_draws" = true) (k8 : PySem.W.keepIn K (.ref f8) = true)
    (a9 : PySem.W.nsIn K mainGlobals "_law_take" = some (some (.ref f9))) (l9 : K.lookup f9 = some ⟨oc9, od9, .func (PySem.W.fnOf "_law_take" "_law_take" (defArgs s__law_take) (defBody s__law_take) (defScope s__law_take) .none kV9 dc9 pm9 an9 cd9 ct9), sl9⟩) (c9 : PySem.W.codeIn K cd9 "_law_take" = true) (k9 : PySem.W.keepIn K (.ref f9) = true)
    (a10 : PySem.W.nsIn K mainGlobals "_law_value" = some (some (.ref f10))) (l10 : K.lookup f10 = some ⟨oc10, od10, .func (PySem.W.fnOf "_law_value" "_law_value" (defArgs s__law_value) (defBody s__law_value) (defScope s__law_value) .none kV10 dc10 pm10 an10 cd10 ct10), sl10⟩) (c10 : PySem.W.codeIn K cd10 "_law_value" = true) (k10 : PySem.W.keepIn K (.ref f10) = true)
    (a11 : PySem.W.nsIn K mainGlobals "_law_same" = some (some (.ref f11))) (l11 : K.lookup f11 = some ⟨oc11, od11, .func (PySem.W.fnOf "_law_same" "_law_same" (defArgs s__law_same) (defBody s__law_same) (defScope s__law_same) .none kV11 dc11 pm11 an11 cd11 ct11), sl11⟩) (c11 : PySem.W.codeIn K cd11 "_law_same" = true) (k11 : PySem.W.keepIn K (.ref f11) = true)
    (a12 : PySem.W.nsIn K mainGlobals "_law_at_most" = some (some (.ref f12))) (l12 : K.lookup f12 = some ⟨oc12, od12, .func (PySem.W.fnOf "_law_at_most" "_law_at_most" (defArgs s__law_at_most) (defBody s__law_at_most) (defScope s__law_at_most) .none kV12 dc12 pm12 an12 cd12 ct12), sl12⟩) (c12 : PySem.W.codeIn K cd12 "_law_at_most" = true) (k12 : PySem.W.keepIn K (.ref f12) = true)
    (a13 : PySem.W.nsIn K mainGlobals "_law_stuck" = some (some (.ref f13))) (l13 : K.lookup f13 = some ⟨oc13, od13, .func (PySem.W.fnOf "_law_stuck" "_law_stuck" (defArgs s__law_stuck) (defBody s__law_stuck) (defScope s__law_stuck) .none kV13 dc13 pm13 an13 cd13 ct13), sl13⟩) (c13 : PySem.W.codeIn K cd13 "_law_stuck" = true) (k13 : PySem.W.keepIn K (.ref f13) = true)
    (a14 : PySem.W.nsIn K mainGlobals "_law_up_count" = some (some (.ref f14))) (l14 : K.lookup f14 = some ⟨oc14, od14, .func (PySem.W.fnOf "_law_up_count" "_law_up_count" (defArgs s__law_up_count) (defBody s__law_up_count) (defScope s__law_up_count) .none kV14 dc14 pm14 an14 cd14 ct14), sl14⟩) (c14 : PySem.W.codeIn K cd14 "_law_up_count" = true) (k14 : PySem.W.keepIn K (.ref f14) = true)
    (a15 : PySem.W.nsIn K mainGlobals "_law_up_value" = some (some (.ref f15))) (l15 : K.lookup f15 = some ⟨oc15, od15, .func (PySem.W.fnOf "_law_up_value" "_law_up_value" (defArgs s__law_up_value) (defBody s__law_up_value) (defScope s__law_up_value) .none kV15 dc15 pm15 an15 cd15 ct15), sl15⟩) (c15 : PySem.W.codeIn K cd15 "_law_up_value" = true) (k15 : PySem.W.keepIn K (.ref f15) = true)
    (a16 : PySem.W.nsIn K mainGlobals "_law_down_count" = some (some (.ref f16))) (l16 : K.lookup f16 = some ⟨oc16, od16, .func (PySem.W.fnOf "_law_down_count" "_law_down_count" (defArgs s__law_down_count) (defBody s__law_down_count) (defScope s__law_down_count) .none kV16 dc16 pm16 an16 cd16 ct16), sl16⟩) (c16 : PySem.W.codeIn K cd16 "_law_down_count" = true) (k16 : PySem.W.keepIn K (.ref f16) = true)
    (a17 : PySem.W.nsIn K mainGlobals "_law_down_value" = some (some (.ref f17))) (l17 : K.lookup f17 = some ⟨oc17, od17, .func (PySem.W.fnOf "_law_down_value" "_law_down_value" (defArgs s__law_down_value) (defBody s__law_down_value) (defScope s__law_down_value) .none kV17 dc17 pm17 an17 cd17 ct17), sl17⟩) (c17 : PySem.W.codeIn K cd17 "_law_down_value" = true) (k17 : PySem.W.keepIn K (.ref f17) = true)
    (a18 : PySem.W.nsIn K mainGlobals "value_at" = some (some (.ref f18))) (l18 : K.lookup f18 = some ⟨oc18, od18, .func (PySem.W.fnOf "value_at" "value_at" (defArgs s_value_at) (defBody s_value_at) (defScope s_value_at) .none kV18 dc18 pm18 an18 cd18 ct18), sl18⟩) (c18 : PySem.W.codeIn K cd18 "value_at" = true) (k18 : PySem.W.keepIn K (.ref f18) = true)
    (a19 : PySem.W.nsIn K mainGlobals "check_need" = some (some (.ref f19))) (l19 : K.lookup f19 = some ⟨oc19, od19, .func (PySem.W.fnOf "check_need" "check_need" (defArgs s_check_need) (defBody s_check_need) (defScope s_check_need) .none kV19 dc19 pm19 an19 cd19 ct19), sl19⟩) (c19 : PySem.W.codeIn K cd19 "check_need" = true) (k19 : PySem.W.keepIn K (.ref f19) = true)
    (a20 : PySem.W.nsIn K mainGlobals "_law_need" = some (some (.ref f20))) (l20 : K.lookup f20 = some ⟨oc20, od20, .func (PySem.W.fnOf "_law_need" "_law_need" (defArgs s__law_need) (defBody s__law_need) (defScope s__law_need) .none kV20 dc20 pm20 an20 cd20 ct20), sl20⟩) (c20 : PySem.W.codeIn K cd20 "_law_need" = true) (k20 : PySem.W.keepIn K (.ref f20) = true)
    (a21 : PySem.W.nsIn K mainGlobals "_law_values" = some (some (.ref f21))) (l21 : K.lookup f21 = some ⟨oc21, od21, .func (PySem.W.fnOf "_law_values" "_law_values" (defArgs s__law_values) (defBody s__law_values) (defScope s__law_values) .none kV21 dc21 pm21 an21 cd21 ct21), sl21⟩) (c21 : PySem.W.codeIn K cd21 "_law_values" = true) (k21 : PySem.W.keepIn K (.ref f21) = true)
    (a22 : PySem.W.nsIn K mainGlobals "_law_count_right" = some (some (.ref f22))) (l22 : K.lookup f22 = some ⟨oc22, od22, .func (PySem.W.fnOf "_law_count_right" "_law_count_right" (defArgs s__law_count_right) (defBody s__law_count_right) (defScope s__law_count_right) .none kV22 dc22 pm22 an22 cd22 ct22), sl22⟩) (c22 : PySem.W.codeIn K cd22 "_law_count_right" = true) (k22 : PySem.W.keepIn K (.ref f22) = true)
    (a23 : PySem.W.findIn K (.ref cNeed) "__init__" = some (some (.ref f23))) (i23 : PySem.W.isFn K (.ref f23) = true) (l23 : K.lookup f23 = some ⟨oc23, od23, .func (PySem.W.fnOf "__init__" "Need.__init__" (defArgs s_Need_m___init__) (defBody s_Need_m___init__) (defScope s_Need_m___init__) .none kV23 dc23 pm23 an23 cd23 ct23), sl23⟩) (c23 : PySem.W.codeIn K cd23 "Need.__init__" = true) (k23 : PySem.W.keepIn K (.ref f23) = true)
    (a24 : PySem.W.findIn K (.ref cNeed) "_value" = some (some (.ref f24))) (i24 : PySem.W.isFn K (.ref f24) = true) (l24 : K.lookup f24 = some ⟨oc24, od24, .func (PySem.W.fnOf "_value" "Need._value" (defArgs s_Need_m__value) (defBody s_Need_m__value) (defScope s_Need_m__value) .none kV24 dc24 pm24 an24 cd24 ct24), sl24⟩) (c24 : PySem.W.codeIn K cd24 "Need._value" = true) (k24 : PySem.W.keepIn K (.ref f24) = true)
    (a25 : PySem.W.findIn K (.ref cNeed) "_stride" = some (some (.ref f25))) (i25 : PySem.W.isFn K (.ref f25) = true) (l25 : K.lookup f25 = some ⟨oc25, od25, .func (PySem.W.fnOf "_stride" "Need._stride" (defArgs s_Need_m__stride) (defBody s_Need_m__stride) (defScope s_Need_m__stride) .none kV25 dc25 pm25 an25 cd25 ct25), sl25⟩) (c25 : PySem.W.codeIn K cd25 "Need._stride" = true) (k25 : PySem.W.keepIn K (.ref f25) = true)
    (a26 : PySem.W.findIn K (.ref cNeed) "_after" = some (some (.ref f26))) (i26 : PySem.W.isFn K (.ref f26) = true) (l26 : K.lookup f26 = some ⟨oc26, od26, .func (PySem.W.fnOf "_after" "Need._after" (defArgs s_Need_m__after) (defBody s_Need_m__after) (defScope s_Need_m__after) .none kV26 dc26 pm26 an26 cd26 ct26), sl26⟩) (c26 : PySem.W.codeIn K cd26 "Need._after" = true) (k26 : PySem.W.keepIn K (.ref f26) = true)
    (a27 : PySem.W.findIn K (.ref cNeed) "rounds_to_afford" = some (some (.ref f27))) (i27 : PySem.W.isFn K (.ref f27) = true) (l27 : K.lookup f27 = some ⟨oc27, od27, .func (PySem.W.fnOf "rounds_to_afford" "Need.rounds_to_afford" (defArgs s_Need_m_rounds_to_afford) (defBody s_Need_m_rounds_to_afford) (defScope s_Need_m_rounds_to_afford) .none kV27 dc27 pm27 an27 cd27 ct27), sl27⟩) (c27 : PySem.W.codeIn K cd27 "Need.rounds_to_afford" = true) (k27 : PySem.W.keepIn K (.ref f27) = true)
    (a28 : PySem.W.findIn K (.ref cNeed) "rounds_to_exceed" = some (some (.ref f28))) (i28 : PySem.W.isFn K (.ref f28) = true) (l28 : K.lookup f28 = some ⟨oc28, od28, .func (PySem.W.fnOf "rounds_to_exceed" "Need.rounds_to_exceed" (defArgs s_Need_m_rounds_to_exceed) (defBody s_Need_m_rounds_to_exceed) (defScope s_Need_m_rounds_to_exceed) .none kV28 dc28 pm28 an28 cd28 ct28), sl28⟩) (c28 : PySem.W.codeIn K cd28 "Need.rounds_to_exceed" = true) (k28 : PySem.W.keepIn K (.ref f28) = true)
    (a29 : PySem.W.nsIn K mainGlobals "_law_make" = some (some (.ref f29))) (l29 : K.lookup f29 = some ⟨oc29, od29, .func (PySem.W.fnOf "_law_make" "_law_make" (defArgs s__law_make) (defBody s__law_make) (defScope s__law_make) .none kV29 dc29 pm29 an29 cd29 ct29), sl29⟩) (c29 : PySem.W.codeIn K cd29 "_law_make" = true) (k29 : PySem.W.keepIn K (.ref f29) = true)
    (a30 : PySem.W.findIn K (.ref cNeed) "highest" = some (some (.ref f30))) (i30 : PySem.W.isFn K (.ref f30) = true) (l30 : K.lookup f30 = some ⟨oc30, od30, .func (PySem.W.fnOf "highest" "Need.highest" (defArgs s_Need_m_highest) (defBody s_Need_m_highest) (defScope s_Need_m_highest) .none kV30 dc30 pm30 an30 cd30 ct30), sl30⟩) (c30 : PySem.W.codeIn K cd30 "Need.highest" = true) (k30 : PySem.W.keepIn K (.ref f30) = true)
    (a31 : PySem.W.findIn K (.ref cNeed) "lowest" = some (some (.ref f31))) (i31 : PySem.W.isFn K (.ref f31) = true) (l31 : K.lookup f31 = some ⟨oc31, od31, .func (PySem.W.fnOf "lowest" "Need.lowest" (defArgs s_Need_m_lowest) (defBody s_Need_m_lowest) (defScope s_Need_m_lowest) .none kV31 dc31 pm31 an31 cd31 ct31), sl31⟩) (c31 : PySem.W.codeIn K cd31 "Need.lowest" = true) (k31 : PySem.W.keepIn K (.ref f31) = true)
    (a32 : PySem.W.nsIn K mainGlobals "_law_small" = some (some (.ref f32))) (l32 : K.lookup f32 = some ⟨oc32, od32, .func (PySem.W.fnOf "_law_small" "_law_small" (defArgs s__law_small) (defBody s__law_small) (defScope s__law_small) .none kV32 dc32 pm32 an32 cd32 ct32), sl32⟩) (c32 : PySem.W.codeIn K cd32 "_law_small" = true) (k32 : PySem.W.keepIn K (.ref f32) = true)
    (a33 : PySem.W.nsIn K mainGlobals "_law_extremes" = some (some (.ref f33))) (l33 : K.lookup f33 = some ⟨oc33, od33, .func (PySem.W.fnOf "_law_extremes" "_law_extremes" (defArgs s__law_extremes) (defBody s__law_extremes) (defScope s__law_extremes) .none kV33 dc33 pm33 an33 cd33 ct33), sl33⟩) (c33 : PySem.W.codeIn K cd33 "_law_extremes" = true) (k33 : PySem.W.keepIn K (.ref f33) = true)
    (a34 : PySem.W.nsIn K mainGlobals "_law_constant" = some (some (.ref f34))) (l34 : K.lookup f34 = some ⟨oc34, od34, .func (PySem.W.fnOf "_law_constant" "_law_constant" (defArgs s__law_constant) (defBody s__law_constant) (defScope s__law_constant) .none kV34 dc34 pm34 an34 cd34 ct34), sl34⟩) (c34 : PySem.W.codeIn K cd34 "_law_constant" = true) (k34 : PySem.W.keepIn K (.ref f34) = true)
    (a35 : PySem.W.nsIn K mainGlobals "_law_paces" = some (some (.ref f35))) (l35 : K.lookup f35 = some ⟨oc35, od35, .func (PySem.W.fnOf "_law_paces" "_law_paces" (defArgs s__law_paces) (defBody s__law_paces) (defScope s__law_paces) .none kV35 dc35 pm35 an35 cd35 ct35), sl35⟩) (c35 : PySem.W.codeIn K cd35 "_law_paces" = true) (k35 : PySem.W.keepIn K (.ref f35) = true)
    (a36 : PySem.W.nsIn K mainGlobals "law" = some (some (.ref f36))) (l36 : K.lookup f36 = some ⟨oc36, od36, .func (PySem.W.fnOf "law" "law" (defArgs s_law) (defBody s_law) (defScope s_law) .none kV36 dc36 pm36 an36 cd36 ct36), sl36⟩) (c36 : PySem.W.codeIn K cd36 "law" = true) (k36 : PySem.W.keepIn K (.ref f36) = true)
    (z_len : PySem.W.nsIn K mainGlobals "len" = some none)
    (z_tuple : PySem.W.nsIn K mainGlobals "tuple" = some none)
    (z_sum : PySem.W.nsIn K mainGlobals "sum" = some none)
    (z_min : PySem.W.nsIn K mainGlobals "min" = some none)
    (z_int : PySem.W.nsIn K mainGlobals "int" = some none)
    (z_abs : PySem.W.nsIn K mainGlobals "abs" = some none)
    (z_range : PySem.W.nsIn K mainGlobals "range" = some none)
    (z_isinstance : PySem.W.nsIn K mainGlobals "isinstance" = some none)
    (z_bool : PySem.W.nsIn K mainGlobals "bool" = some none)
    (z_max : PySem.W.nsIn K mainGlobals "max" = some none) :
    ∃ fd : FuncData, (∀ (s : Shared) (v : Value), BindsTo s fd ⟨[v], []⟩ [("script", v)]) ∧ ∀ base : Heap, K.In base → base.Ns mainGlobals mg → FnOk l.prog w K mg base CX0 8 fa fd ["script"] (spLaw K) := by
  have e := hfa.symm.trans (PySem.W.mg_of X G a36)
  cases e
  have F0 := fun_mk (st := s_are_rises) l0 c0 k0
  have F1 := fun_mk (st := s_is_open) l1 c1 k1
  have F2 := fun_mk (st := s_values_at_lows) l2 c2 k2
  have F3 := fun_mk (st := s_greatest_value) l3 c3 k3
  have F4 := fun_mk (st := s_pair_at) l4 c4 k4
  have F5 := fun_mk (st := s_sooner) l5 c5 k5
  have F6 := fun_mk (st := s_exceeds) l6 c6 k6
  have F7 := fun_mk (st := s__law_cell) l7 c7 k7
  have F8 := fun_mk (st := s__law_draws) l8 c8 k8
  have F9 := fun_mk (st := s__law_take) l9 c9 k9
  have F10 := fun_mk (st := s__law_value) l10 c10 k10
  have F11 := fun_mk (st := s__law_same) l11 c11 k11
  have F12 := fun_mk (st := s__law_at_most) l12 c12 k12
  have F13 := fun_mk (st := s__law_stuck) l13 c13 k13
  have F14 := fun_mk (st := s__law_up_count) l14 c14 k14
  have F15 := fun_mk (st := s__law_up_value) l15 c15 k15
  have F16 := fun_mk (st := s__law_down_count) l16 c16 k16
  have F17 := fun_mk (st := s__law_down_value) l17 c17 k17
  have F18 := fun_mk (st := s_value_at) l18 c18 k18
  have F19 := fun_mk (st := s_check_need) l19 c19 k19
  have F20 := fun_mk (st := s__law_need) l20 c20 k20
  have F21 := fun_mk (st := s__law_values) l21 c21 k21
  have F22 := fun_mk (st := s__law_count_right) l22 c22 k22
  have F23 := fun_mk (st := s_Need_m___init__) l23 c23 k23
  have F24 := fun_mk (st := s_Need_m__value) l24 c24 k24
  have F25 := fun_mk (st := s_Need_m__stride) l25 c25 k25
  have F26 := fun_mk (st := s_Need_m__after) l26 c26 k26
  have F27 := fun_mk (st := s_Need_m_rounds_to_afford) l27 c27 k27
  have F28 := fun_mk (st := s_Need_m_rounds_to_exceed) l28 c28 k28
  have F29 := fun_mk (st := s__law_make) l29 c29 k29
  have F30 := fun_mk (st := s_Need_m_highest) l30 c30 k30
  have F31 := fun_mk (st := s_Need_m_lowest) l31 c31 k31
  have F32 := fun_mk (st := s__law_small) l32 c32 k32
  have F33 := fun_mk (st := s__law_extremes) l33 c33 k33
  have F34 := fun_mk (st := s__law_constant) l34 c34 k34
  have F35 := fun_mk (st := s__law_paces) l35 c35 k35
  have F36 := fun_mk (st := s_law) l36 c36 k36
  have m_len := PySem.W.mg_none_of X G z_len
  have m_tuple := PySem.W.mg_none_of X G z_tuple
  have m_sum := PySem.W.mg_none_of X G z_sum
  have m_min := PySem.W.mg_none_of X G z_min
  have m_int := PySem.W.mg_none_of X G z_int
  have m_abs := PySem.W.mg_none_of X G z_abs
  have m_range := PySem.W.mg_none_of X G z_range
  have m_isinstance := PySem.W.mg_none_of X G z_isinstance
  have m_bool := PySem.W.mg_none_of X G z_bool
  have m_max := PySem.W.mg_none_of X G z_max
  have g0 := PySem.W.mg_of X G a0
  have g1 := PySem.W.mg_of X G a1
  have g2 := PySem.W.mg_of X G a2
  have g3 := PySem.W.mg_of X G a3
  have g4 := PySem.W.mg_of X G a4
  have g5 := PySem.W.mg_of X G a5
  have g6 := PySem.W.mg_of X G a6
  have g7 := PySem.W.mg_of X G a7
  have g8 := PySem.W.mg_of X G a8
  have g9 := PySem.W.mg_of X G a9
  have g10 := PySem.W.mg_of X G a10
  have g11 := PySem.W.mg_of X G a11
  have g12 := PySem.W.mg_of X G a12
  have g13 := PySem.W.mg_of X G a13
  have g14 := PySem.W.mg_of X G a14
  have g15 := PySem.W.mg_of X G a15
  have g16 := PySem.W.mg_of X G a16
  have g17 := PySem.W.mg_of X G a17
  have g18 := PySem.W.mg_of X G a18
  have g19 := PySem.W.mg_of X G a19
  have g20 := PySem.W.mg_of X G a20
  have g21 := PySem.W.mg_of X G a21
  have g22 := PySem.W.mg_of X G a22
  have g29 := PySem.W.mg_of X G a29
  have g32 := PySem.W.mg_of X G a32
  have g33 := PySem.W.mg_of X G a33
  have g34 := PySem.W.mg_of X G a34
  have g35 := PySem.W.mg_of X G a35
  have g36 := PySem.W.mg_of X G a36
  have K_Need : Cls K cNeed := ⟨qNeed_pg, qNeed_hd, qNeed_po, qNeed_sa⟩
  have T : Txt K mg cNeed := ⟨K_Need, PySem.W.mg_of X G qNeed_aC, qNeed_sf, qNeed_nf, ⟨K_Need, qNeed_ia, qNeed_ib, qNeed_ic, qNeed_im, DL.kit_self K cNeed⟩, qNeed_n_start, qNeed_n_rises, qNeed_n_never, qNeed_n__values⟩
  refine' ⟨_, ?_, fun base _ _ => ?_⟩
  rotate_left 2
  have O0 := ok_are_rises (Pg := l.prog) (w := w) (base := base) F0 T
  have C_are_rises : DL.Callee l.prog w K mg base 1 "are_rises" f0 _ ["pairs"] (fs_are_rises cNeed) := ⟨O0, g0, k0, F0.binds fun _ _ _ _ _ _ us hl => match us, hl with | [_], _ => rfl⟩
  have O1 := ok_is_open (Pg := l.prog) (w := w) (base := base) F1 m_len T
  have C_is_open : DL.Callee l.prog w K mg base 1 "is_open" f1 _ ["rises"] (fs_is_open cNeed) := ⟨O1, g1, k1, F1.binds fun _ _ _ _ _ _ us hl => match us, hl with | [_], _ => rfl⟩
  have O2 := ok_values_at_lows (Pg := l.prog) (w := w) (base := base) F2 m_tuple T
  have C_values_at_lows : DL.Callee l.prog w K mg base 1 "values_at_lows" f2 _ ["start", "rises"] (fs_values_at_lows cNeed) := ⟨O2, g2, k2, F2.binds fun _ _ _ _ _ _ us hl => match us, hl with | [_, _], _ => rfl⟩
  have O3 := ok_greatest_value (Pg := l.prog) (w := w) (base := base) F3 m_sum T
  have C_greatest_value : DL.Callee l.prog w K mg base 1 "greatest_value" f3 _ ["start", "rises"] (fs_greatest_value cNeed) := ⟨O3, g3, k3, F3.binds fun _ _ _ _ _ _ us hl => match us, hl with | [_, _], _ => rfl⟩
  have O4 := ok_pair_at (Pg := l.prog) (w := w) (base := base) F4 m_len T
  have C_pair_at : DL.Callee l.prog w K mg base 1 "pair_at" f4 _ ["rises", "k"] (fs_pair_at cNeed) := ⟨O4, g4, k4, F4.binds fun _ _ _ _ _ _ us hl => match us, hl with | [_, _], _ => rfl⟩
  have O5 := ok_sooner (Pg := l.prog) (w := w) (base := base) F5 m_min T
  have C_sooner : DL.Callee l.prog w K mg base 1 "sooner" f5 _ ["one", "other"] (fs_sooner cNeed) := ⟨O5, g5, k5, F5.binds fun _ _ _ _ _ _ us hl => match us, hl with | [_, _], _ => rfl⟩
  have O6 := ok_exceeds (Pg := l.prog) (w := w) (base := base) F6 T
  have C_exceeds : DL.Callee l.prog w K mg base 1 "exceeds" f6 _ ["one", "other"] (fs_exceeds cNeed) := ⟨O6, g6, k6, F6.binds fun _ _ _ _ _ _ us hl => match us, hl with | [_, _], _ => rfl⟩
  have O7 := ok__law_cell (Pg := l.prog) (w := w) (base := base) F7 m_len m_int T
  have C__law_cell : DL.Callee l.prog w K mg base 1 "_law_cell" f7 _ ["script", "k"] (fs__law_cell cNeed) := ⟨O7, g7, k7, F7.binds fun _ _ _ _ _ _ us hl => match us, hl with | [_, _], _ => rfl⟩
  have O8 := ok__law_draws (Pg := l.prog) (w := w) (base := base) F8 m_abs m_int m_range T
  have C__law_draws : DL.Callee l.prog w K mg base 1 "_law_draws" f8 _ ["cell", "many"] (fs__law_draws cNeed) := ⟨O8, g8, k8, F8.binds fun _ _ _ _ _ _ us hl => match us, hl with | [_, _], _ => rfl⟩
  have O9 := ok__law_take (Pg := l.prog) (w := w) (base := base) F9 m_len T
  have C__law_take : DL.Callee l.prog w K mg base 1 "_law_take" f9 _ ["draws", "place"] (fs__law_take cNeed) := ⟨O9, g9, k9, F9.binds fun _ _ _ _ _ _ us hl => match us, hl with | [_, _], _ => rfl⟩
  have O10 := ok__law_value (Pg := l.prog) (w := w) (base := base) F10 T
  have C__law_value : DL.Callee l.prog w K mg base 1 "_law_value" f10 _ ["need", "k"] (fs__law_value cNeed) := ⟨O10, g10, k10, F10.binds fun _ _ _ _ _ _ us hl => match us, hl with | [_, _], _ => rfl⟩
  have O11 := ok__law_same (Pg := l.prog) (w := w) (base := base) F11 m_isinstance m_int m_bool T
  have C__law_same : DL.Callee l.prog w K mg base 1 "_law_same" f11 _ ["told", "due"] (fs__law_same cNeed) := ⟨O11, g11, k11, F11.binds fun _ _ _ _ _ _ us hl => match us, hl with | [_, _], _ => rfl⟩
  have O12 := ok__law_at_most (Pg := l.prog) (w := w) (base := base) F12 T
  have C__law_at_most : DL.Callee l.prog w K mg base 1 "_law_at_most" f12 _ ["a", "b"] (fs__law_at_most cNeed) := ⟨O12, g12, k12, F12.binds fun _ _ _ _ _ _ us hl => match us, hl with | [_, _], _ => rfl⟩
  have O13 := ok__law_stuck (Pg := l.prog) (w := w) (base := base) F13 T
  have C__law_stuck : DL.Callee l.prog w K mg base 1 "_law_stuck" f13 _ ["values", "purse", "above"] (fs__law_stuck cNeed) := ⟨O13, g13, k13, F13.binds fun _ _ _ _ _ _ us hl => match us, hl with | [_, _, _], _ => rfl⟩
  have O14 := ok__law_up_count (Pg := l.prog) (w := w) (base := base) F14 m_min T
  have C__law_up_count : DL.Callee l.prog w K mg base 1 "_law_up_count" f14 _ ["pace", "flat", "edge", "needed", "purse"] (fs__law_up_count cNeed) := ⟨O14, g14, k14, F14.binds fun _ _ _ _ _ _ us hl => match us, hl with | [_, _, _, _, _], _ => rfl⟩
  have O15 := ok__law_up_value (Pg := l.prog) (w := w) (base := base) F15 m_min T
  have C__law_up_value : DL.Callee l.prog w K mg base 1 "_law_up_value" f15 _ ["pace", "flat", "edge", "needed", "limit"] (fs__law_up_value cNeed) := ⟨O15, g15, k15, F15.binds fun _ _ _ _ _ _ us hl => match us, hl with | [_, _, _, _, _], _ => rfl⟩
  have O16 := ok__law_down_count (Pg := l.prog) (w := w) (base := base) F16 m_min T
  have C__law_down_count : DL.Callee l.prog w K mg base 1 "_law_down_count" f16 _ ["base", "pace", "flat", "edge", "needed", "purse"] (fs__law_down_count cNeed) := ⟨O16, g16, k16, F16.binds fun _ _ _ _ _ _ us hl => match us, hl with | [_, _, _, _, _, _], _ => rfl⟩
  have O17 := ok__law_down_value (Pg := l.prog) (w := w) (base := base) F17 m_min m_max T
  have C__law_down_value : DL.Callee l.prog w K mg base 1 "_law_down_value" f17 _ ["base", "pace", "flat", "edge", "needed", "limit"] (fs__law_down_value cNeed) := ⟨O17, g17, k17, F17.binds fun _ _ _ _ _ _ us hl => match us, hl with | [_, _, _, _, _, _], _ => rfl⟩
  have O18 := ok_value_at (Pg := l.prog) (w := w) (base := base) F18 m_min T C_pair_at
  have C_value_at : DL.Callee l.prog w K mg base 2 "value_at" f18 _ ["start", "rises", "values", "k"] (fs_value_at cNeed) := ⟨O18, g18, k18, F18.binds fun _ _ _ _ _ _ us hl => match us, hl with | [_, _, _, _], _ => rfl⟩
  have O19 := ok_check_need (Pg := l.prog) (w := w) (base := base) F19 m_len T C_are_rises C_is_open C_greatest_value
  have C_check_need : DL.Callee l.prog w K mg base 2 "check_need" f19 _ ["start", "rises", "never"] (fs_check_need cNeed) := ⟨O19, g19, k19, F19.binds fun _ _ _ _ _ _ us hl => match us, hl with | [_, _, _], _ => rfl⟩
  have O20 := ok__law_need (Pg := l.prog) (w := w) (base := base) F20 m_int m_range m_len m_tuple T C__law_take
  have C__law_need : DL.Callee l.prog w K mg base 2 "_law_need" f20 _ ["draws", "place"] (fs__law_need cNeed) := ⟨O20, g20, k20, F20.binds fun _ _ _ _ _ _ us hl => match us, hl with | [_, _], _ => rfl⟩
  have O21 := ok__law_values (Pg := l.prog) (w := w) (base := base) F21 m_range T C__law_value
  have C__law_values : DL.Callee l.prog w K mg base 2 "_law_values" f21 _ ["need", "k", "many"] (fs__law_values cNeed) := ⟨O21, g21, k21, F21.binds fun _ _ _ _ _ _ us hl => match us, hl with | [_, _, _], _ => rfl⟩
  have O22 := ok__law_count_right (Pg := l.prog) (w := w) (base := base) F22 m_range m_len m_isinstance m_int m_bool T C__law_same
  have C__law_count_right : DL.Callee l.prog w K mg base 2 "_law_count_right" f22 _ ["told", "values", "purse", "above"] (fs__law_count_right cNeed) := ⟨O22, g22, k22, F22.binds fun _ _ _ _ _ _ us hl => match us, hl with | [_, _, _, _], _ => rfl⟩
  have O23 := ok_Need_m___init__ (Pg := l.prog) (w := w) (base := base) F23 m_tuple T C_check_need C_values_at_lows
  have CC_Need_m___init__ : DL.CalleeC l.prog w K mg base 3 "Need" cNeed f23 _ ["self", "start", "rises", "never"] (fs_Need_m___init__ cNeed) := ⟨O23, ⟨qNeed_mk, a23, i23, qNeed_kc⟩, T.mg_Need, F23.binds fun _ _ _ _ _ _ us hl => match us, hl with | [_, _, _, _], _ => rfl⟩
  have O24 := ok_Need_m__value (Pg := l.prog) (w := w) (base := base) F24 T C_value_at
  have CM_Need_m__value : DL.CalleeM l.prog w K mg base 3 cNeed "_value" f24 _ ["self", "k"] (fs_Need_m__value cNeed) := ⟨O24, K_Need, ⟨a24, i24, k24⟩, F24.binds fun _ _ _ _ _ _ us hl => match us, hl with | [_, _], _ => rfl⟩
  have O25 := ok_Need_m__stride (Pg := l.prog) (w := w) (base := base) F25 T C_pair_at CM_Need_m__value
  have CM_Need_m__stride : DL.CalleeM l.prog w K mg base 4 cNeed "_stride" f25 _ ["self", "k"] (fs_Need_m__stride cNeed) := ⟨O25, K_Need, ⟨a25, i25, k25⟩, F25.binds fun _ _ _ _ _ _ us hl => match us, hl with | [_, _], _ => rfl⟩
  have O26 := ok_Need_m__after (Pg := l.prog) (w := w) (base := base) F26 T CM_Need_m__stride C_sooner
  have CM_Need_m__after : DL.CalleeM l.prog w K mg base 5 cNeed "_after" f26 _ ["self", "k", "limit"] (fs_Need_m__after cNeed) := ⟨O26, K_Need, ⟨a26, i26, k26⟩, F26.binds fun _ _ _ _ _ _ us hl => match us, hl with | [_, _, _], _ => rfl⟩
  have O27 := ok_Need_m_rounds_to_afford (Pg := l.prog) (w := w) (base := base) F27 T CM_Need_m__stride C_sooner
  have CM_Need_m_rounds_to_afford : DL.CalleeM l.prog w K mg base 5 cNeed "rounds_to_afford" f27 _ ["self", "needed", "purse"] (fs_Need_m_rounds_to_afford cNeed) := ⟨O27, K_Need, ⟨a27, i27, k27⟩, F27.binds fun _ _ _ _ _ _ us hl => match us, hl with | [_, _, _], _ => rfl⟩
  have O28 := ok_Need_m_rounds_to_exceed (Pg := l.prog) (w := w) (base := base) F28 T C_exceeds CM_Need_m__stride C_sooner
  have CM_Need_m_rounds_to_exceed : DL.CalleeM l.prog w K mg base 5 cNeed "rounds_to_exceed" f28 _ ["self", "needed", "purse"] (fs_Need_m_rounds_to_exceed cNeed) := ⟨O28, K_Need, ⟨a28, i28, k28⟩, F28.binds fun _ _ _ _ _ _ us hl => match us, hl with | [_, _, _], _ => rfl⟩
  have O29 := ok__law_make (Pg := l.prog) (w := w) (base := base) F29 T CC_Need_m___init__
  have C__law_make : DL.Callee l.prog w K mg base 5 "_law_make" f29 _ ["need"] (fs__law_make cNeed) := ⟨O29, g29, k29, F29.binds fun _ _ _ _ _ _ us hl => match us, hl with | [_], _ => rfl⟩
  have O30 := ok_Need_m_highest (Pg := l.prog) (w := w) (base := base) F30 T CM_Need_m__after C_exceeds
  have CM_Need_m_highest : DL.CalleeM l.prog w K mg base 6 cNeed "highest" f30 _ ["self", "needed", "limit"] (fs_Need_m_highest cNeed) := ⟨O30, K_Need, ⟨a30, i30, k30⟩, F30.binds fun _ _ _ _ _ _ us hl => match us, hl with | [_, _, _], _ => rfl⟩
  have O31 := ok_Need_m_lowest (Pg := l.prog) (w := w) (base := base) F31 T C_sooner CM_Need_m__after
  have CM_Need_m_lowest : DL.CalleeM l.prog w K mg base 6 cNeed "lowest" f31 _ ["self", "needed", "limit"] (fs_Need_m_lowest cNeed) := ⟨O31, K_Need, ⟨a31, i31, k31⟩, F31.binds fun _ _ _ _ _ _ us hl => match us, hl with | [_, _, _], _ => rfl⟩
  have O32 := ok__law_small (Pg := l.prog) (w := w) (base := base) F32 T C__law_values CM_Need_m_rounds_to_afford CM_Need_m_rounds_to_exceed C__law_count_right C__law_stuck
  have C__law_small : DL.Callee l.prog w K mg base 6 "_law_small" f32 _ ["f", "need", "k", "purse"] (fs__law_small cNeed) := ⟨O32, g32, k32, F32.binds fun _ _ _ _ _ _ us hl => match us, hl with | [_, _, _, _], _ => rfl⟩
  have O33 := ok__law_extremes (Pg := l.prog) (w := w) (base := base) F33 T C__law_values C__law_at_most C__law_same CM_Need_m_lowest CM_Need_m_highest
  have C__law_extremes : DL.Callee l.prog w K mg base 7 "_law_extremes" f33 _ ["f", "need", "k", "limit"] (fs__law_extremes cNeed) := ⟨O33, g33, k33, F33.binds fun _ _ _ _ _ _ us hl => match us, hl with | [_, _, _, _], _ => rfl⟩
  have O34 := ok__law_constant (Pg := l.prog) (w := w) (base := base) F34 m_int m_min m_max T CC_Need_m___init__ C__law_same CM_Need_m_rounds_to_exceed CM_Need_m_rounds_to_afford CM_Need_m_highest CM_Need_m_lowest
  have C__law_constant : DL.Callee l.prog w K mg base 7 "_law_constant" f34 _ ["step", "edge", "needed", "purse", "limit"] (fs__law_constant cNeed) := ⟨O34, g34, k34, F34.binds fun _ _ _ _ _ _ us hl => match us, hl with | [_, _, _, _, _], _ => rfl⟩
  have O35 := ok__law_paces (Pg := l.prog) (w := w) (base := base) F35 m_int T CC_Need_m___init__ C__law_same CM_Need_m_rounds_to_exceed C__law_up_count CM_Need_m_highest C__law_up_value CM_Need_m_rounds_to_afford C__law_down_count CM_Need_m_lowest C__law_down_value
  have C__law_paces : DL.Callee l.prog w K mg base 7 "_law_paces" f35 _ ["draws", "bend", "needed", "purse", "limit"] (fs__law_paces cNeed) := ⟨O35, g35, k35, F35.binds fun _ _ _ _ _ _ us hl => match us, hl with | [_, _, _, _, _], _ => rfl⟩
  exact (ok_law (Pg := l.prog) (w := w) (base := base) F36 m_range m_int m_abs T C__law_draws C__law_cell C__law_need C__law_make C__law_small C__law_extremes C__law_constant C__law_paces).imp fun vs H Q E h => law_sp h
  exact fun s v => .of_eq rfl
end K19
open PySem PySem.W PyProof.Rows
set_option maxHeartbeats 0 in
theorem PySem.Challenge.cw_signedpacts_k19_need_round_counts_holds : PySem.Challenge.rw_signedpacts_k19_need_round_counts.Holds := by
  w_on; o_law; k_head; (case hw => w_witness2)
  k_fill
  refine L2.walk_of (l := PySem.Challenge.rw_signedpacts_k19_need_round_counts) (n := 63) (k := 8) (x := "script") (CX := fun _ => L2.CX0) (sp := fun w => K19.spLaw _) rfl (by decide) rfl ⟨rfl, by decide, by decide⟩ (fun w h Y => PySem.W.kIn_of Y) ?F (fun _ _ a ns hl _ hS => ⟨a, ns, rfl, hS, hl, fun _ => rfl⟩) (fun _ _ _ _ _ h => h)
  case F =>
    intro w mg fa h KX G hmg
    refine' K19.all_mk KX G hmg ?qNeed_aC ?qNeed_pg ?qNeed_hd ?qNeed_po ?qNeed_sa ?qNeed_mk ?qNeed_kc ?qNeed_sf ?qNeed_nf ?qNeed_ia ?qNeed_ib ?qNeed_ic ?qNeed_im ?qNeed_n_start ?qNeed_n_rises ?qNeed_n_never ?qNeed_n__values ?a0 ?l0 ?c0 ?k0 ?a1 ?l1 ?c1 ?k1 ?a2 ?l2 ?c2 ?k2 ?a3 ?l3 ?c3 ?k3 ?a4 ?l4 ?c4 ?k4 ?a5 ?l5 ?c5 ?k5 ?a6 ?l6 ?c6 ?k6 ?a7 ?l7 ?c7 ?k7 ?a8 ?l8 ?c8 ?k8 ?a9 ?l9 ?c9 ?k9 ?a10 ?l10 ?c10 ?k10 ?a11 ?l11 ?c11 ?k11 ?a12 ?l12 ?c12 ?k12 ?a13 ?l13 ?c13 ?k13 ?a14 ?l14 ?c14 ?k14 ?a15 ?l15 ?c15 ?k15 ?a16 ?l16 ?c16 ?k16 ?a17 ?l17 ?c17 ?k17 ?a18 ?l18 ?c18 ?k18 ?a19 ?l19 ?c19 ?k19 ?a20 ?l20 ?c20 ?k20 ?a21 ?l21 ?c21 ?k21 ?a22 ?l22 ?c22 ?k22 ?a23 ?i23 ?l23 ?c23 ?k23 ?a24 ?i24 ?l24 ?c24 ?k24 ?a25 ?i25 ?l25 ?c25 ?k25 ?a26 ?i26 ?l26 ?c26 ?k26 ?a27 ?i27 ?l27 ?c27 ?k27 ?a28 ?i28 ?l28 ?c28 ?k28 ?a29 ?l29 ?c29 ?k29 ?a30 ?i30 ?l30 ?c30 ?k30 ?a31 ?i31 ?l31 ?c31 ?k31 ?a32 ?l32 ?c32 ?k32 ?a33 ?l33 ?c33 ?k33 ?a34 ?l34 ?c34 ?k34 ?a35 ?l35 ?c35 ?k35 ?a36 ?l36 ?c36 ?k36 ?z_len ?z_tuple ?z_sum ?z_min ?z_int ?z_abs ?z_range ?z_isinstance ?z_bool ?z_max
    (case qNeed_aC => k_is); (case qNeed_pg => k_is); (case qNeed_hd => k_is); (case qNeed_po => k_is); (case qNeed_sa => k_is); (case qNeed_mk => k_is); (case qNeed_kc => k_is); (case qNeed_sf => k_is); (case qNeed_nf => k_is); (case qNeed_ia => k_is); (case qNeed_ib => k_is); (case qNeed_ic => k_is); (case qNeed_im => k_is); (case qNeed_n_start => k_is); (case qNeed_n_rises => k_is); (case qNeed_n_never => k_is); (case qNeed_n__values => k_is); (case a0 => k_is); (case l0 => k_is); (case c0 => k_is); (case k0 => k_is); (case a1 => k_is); (case l1 => k_is); (case c1 => k_is); (case k1 => k_is); (case a2 => k_is); (case l2 => k_is); (case c2 => k_is); (case k2 => k_is); (case a3 => k_is); (case l3 => k_is); (case c3 => k_is); (case k3 => k_is); (case a4 => k_is); (case l4 => k_is); (case c4 => k_is); (case k4 => k_is); (case a5 => k_is); (case l5 => k_is); (case c5 => k_is); (case k5 => k_is); (case a6 => k_is); (case l6 => k_is); (case c6 => k_is); (case k6 => k_is); (case a7 => k_is); (case l7 => k_is); (case c7 => k_is); (case k7 => k_is); (case a8 => k_is); (case l8 => k_is); (case c8 => k_is); (case k8 => k_is); (case a9 => k_is); (case l9 => k_is); (case c9 => k_is); (case k9 => k_is); (case a10 => k_is); (case l10 => k_is); (case c10 => k_is); (case k10 => k_is); (case a11 => k_is); (case l11 => k_is); (case c11 => k_is); (case k11 => k_is); (case a12 => k_is); (case l12 => k_is); (case c12 => k_is); (case k12 => k_is); (case a13 => k_is); (case l13 => k_is); (case c13 => k_is); (case k13 => k_is); (case a14 => k_is); (case l14 => k_is); (case c14 => k_is); (case k14 => k_is); (case a15 => k_is); (case l15 => k_is); (case c15 => k_is); (case k15 => k_is); (case a16 => k_is); (case l16 => k_is); (case c16 => k_is); (case k16 => k_is); (case a17 => k_is); (case l17 => k_is); (case c17 => k_is); (case k17 => k_is); (case a18 => k_is); (case l18 => k_is); (case c18 => k_is); (case k18 => k_is); (case a19 => k_is); (case l19 => k_is); (case c19 => k_is); (case k19 => k_is); (case a20 => k_is); (case l20 => k_is); (case c20 => k_is); (case k20 => k_is); (case a21 => k_is); (case l21 => k_is); (case c21 => k_is); (case k21 => k_is); (case a22 => k_is); (case l22 => k_is); (case c22 => k_is); (case k22 => k_is); (case a23 => k_is); (case i23 => k_is); (case l23 => k_is); (case c23 => k_is); (case k23 => k_is); (case a24 => k_is); (case i24 => k_is); (case l24 => k_is); (case c24 => k_is); (case k24 => k_is); (case a25 => k_is); (case i25 => k_is); (case l25 => k_is); (case c25 => k_is); (case k25 => k_is); (case a26 => k_is); (case i26 => k_is); (case l26 => k_is); (case c26 => k_is); (case k26 => k_is); (case a27 => k_is); (case i27 => k_is); (case l27 => k_is); (case c27 => k_is); (case k27 => k_is); (case a28 => k_is); (case i28 => k_is); (case l28 => k_is); (case c28 => k_is); (case k28 => k_is); (case a29 => k_is); (case l29 => k_is); (case c29 => k_is); (case k29 => k_is); (case a30 => k_is); (case i30 => k_is); (case l30 => k_is); (case c30 => k_is); (case k30 => k_is); (case a31 => k_is); (case i31 => k_is); (case l31 => k_is); (case c31 => k_is); (case k31 => k_is); (case a32 => k_is); (case l32 => k_is); (case c32 => k_is); (case k32 => k_is); (case a33 => k_is); (case l33 => k_is); (case c33 => k_is); (case k33 => k_is); (case a34 => k_is); (case l34 => k_is); (case c34 => k_is); (case k34 => k_is); (case a35 => k_is); (case l35 => k_is); (case c35 => k_is); (case k35 => k_is); (case a36 => k_is); (case l36 => k_is); (case c36 => k_is); (case k36 => k_is); (case z_len => k_is); (case z_tuple => k_is); (case z_sum => k_is); (case z_min => k_is); (case z_int => k_is); (case z_abs => k_is); (case z_range => k_is); (case z_isinstance => k_is); (case z_bool => k_is); (case z_max => k_is)

