package types

import (
	"strings"

	"smithy/api"
	"smithy/syntax"
)

// basis is what the checker must know of what there is at first.
type basis struct {
	integer, real, char, text, exn, truth, unit *ty
	arrow, list                                 *tycon
}

// atFirst declares what there is at first, but for operators that are told apart. The values of the signature top have no
// structure; those of the others are in structures of their names.
const atFirst = `
datatype bool = false | true
datatype 'a list = nil | :: of 'a * 'a list
exception Match exception Bind exception Div exception Subscript
exception Size exception Io exception Domain exception Chr
type unit = {}

signature top = sig
  val = : ''a * ''a -> bool
  val <> : ''a * ''a -> bool
  val / : real * real -> real
  val div : int * int -> int
  val mod : int * int -> int
  val ^ : string * string -> string
  val ref : 'a -> 'a ref
  val ! : 'a ref -> 'a
  val := : 'a ref * 'a -> unit
  val print : string -> unit
  val inputLine : unit -> string
  val readFile : string -> string
  val writeFile : string * string -> unit
  val exit : int -> 'a
  val size : string -> int
  val str : char -> string
  val ord : char -> int
  val chr : int -> char
end

signature Int = sig val toString : int -> string end

signature Real = sig
  val fromInt : int -> real
  val floor : real -> int
  val bits : real -> int
end

signature String = sig
  val sub : string * int -> char
  val substring : string * int * int -> string
end

signature Vector = sig
  val fromList : 'a list -> 'a vector
  val sub : 'a vector * int -> 'a
  val length : 'a vector -> int
end

signature Bytes = sig
  val new : int -> bytes
  val get : bytes * int -> int
  val put : bytes * int * int -> unit
  val length : bytes -> int
end
`

// toldApart are the operators that are told apart.
const toldApart = "+ - * ~ < <= > >="

// begin declares what there is at first.
func (c *checker) begin() {
	c.unit = &ty{kind: kindRecord}
	c.arrow = &tycon{needs: make([]bool, 2), strict: make([]bool, 2)}
	c.integer, c.real, c.char, c.text = c.plain("int"), c.plain("real"), c.plain("char"), c.plain("string")
	c.exn = c.plain("exn")
	c.plain("bytes")
	c.real.con.eq, c.exn.con.eq = false, false
	c.container("vector")
	c.container("ref").needs[0] = false
	decs, _ := syntax.Parse(atFirst)
	c.decs(decs)
	c.truth = c.apply(c.typeNamed("bool").con, nil)
	c.list = c.typeNamed("list").con
	for i := range decs {
		if decs[i].Kind == api.DecSig {
			c.beginWith(decs[i].Name)
		}
	}
	for _, name := range strings.Fields(toldApart) {
		declare(c.values, name, value{sort: sortOperator})
	}
}

// plain declares a type without parameters.
func (c *checker) plain(name string) *ty {
	con := c.newCon(name, nil)
	declare(c.types, name, typeName{con: con})
	return c.apply(con, nil)
}

// container declares a type with one parameter.
func (c *checker) container(name string) *tycon {
	con := c.newCon(name, make([]bool, 1))
	declare(c.types, name, typeName{con: con})
	return con
}

// beginWith declares the values of a signature, which is no longer known then.
func (c *checker) beginWith(name string) {
	s := &structure{values: map[string]value{}}
	for _, sp := range c.signatures[0][name].specs {
		s.see(sp.name, sp.value)
		if name == "top" {
			declare(c.values, sp.name, sp.value)
		}
	}
	delete(c.signatures[0], name)
	if name != "top" {
		s.count()
		declare(c.structures, name, s)
	}
}
