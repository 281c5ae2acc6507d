package parse

import "tidemark/api"

// What a statement begins with.
const (
	verbMake    = "make"
	verbDrop    = "drop"
	verbIndex   = "index"
	verbUnindex = "unindex"
	verbInsert  = "insert"
	verbReplace = "replace"
	verbGet     = "get"
	verbFind    = "find"
	verbCount   = "count"
	verbDelete  = "delete"
	verbUpdate  = "update"
)

// What a condition is, if it is no test by a sign.
const (
	opOr     = "or"
	opAnd    = "and"
	opNot    = "not"
	opExists = "exists"
	opIn     = "in"
)

// What a change does.
const (
	doSet   = "set"
	doUnset = "unset"
	doPush  = "push"
	doAdd   = "add"
)

// What else stands for itself.
const (
	wordWhere = "where"
	wordOrder = "order"
	wordBy    = "by"
	wordDesc  = "desc"
	wordLimit = "limit"
	wordShow  = "show"
	wordNull  = "null"
	wordTrue  = "true"
	wordFalse = "false"
)

func word(s string) api.Token { return api.Token{Kind: api.Word, S: s} }

func sign(s string) api.Token { return api.Token{Kind: api.Sign, S: s} }

func number(n int64) api.Token { return api.Token{Kind: api.Number, N: n} }

func quoted(s string) api.Token { return api.Token{Kind: api.Quoted, S: s} }
