package parse

import "tidemark/api"

func word(s string) api.Token { return api.Token{Kind: api.Word, S: s} }

func sign(s string) api.Token { return api.Token{Kind: api.Sign, S: s} }

func number(n int64) api.Token { return api.Token{Kind: api.Number, N: n} }

func quoted(s string) api.Token { return api.Token{Kind: api.Quoted, S: s} }
